"""Waiting: how long a sender does not get through, and when senders that stop then have all done so."""

from anyshift.counts import class_lines
from anyshift.errors import TooMany
from anyshift.groups import check_offsets, check_span, periods, span, tuples_below
from anyshift.patterns import sends_at
from anyshift.shuts import shut_out
from anyshift.values import multiplied

MOST_OFFSETS = 1000


def longest_wait(group, who):
    """Return how long the sender does not get through at most, None if for ever, and the smallest such offsets."""
    shutting = shut_out(group, who)
    if shutting is not None:
        return (None, shutting)
    rows = [(wait_in(line, who), offsets) for line, offsets in class_lines(group, span(group))]
    # Of several that are as great, max takes the first one, and the classes are ascending.
    return max(rows, key=lambda row: row[0])


def wait_in(line, who):
    """Return how many ticks there are at most between two in which the sender gets through, if the line repeats."""
    through = [tick for tick, what in enumerate(line) if what == who]
    after = [*through[1:], through[0] + len(line)]
    return max([later - tick - 1 for tick, later in zip(through, after)])


def stop_ticks(group, offsets):
    """Return for each sender the tick in which it gets through, and is silent from then on, or None."""
    check_offsets(group, offsets)
    check_span(group)
    return stops(group, offsets, span(group))


def stops(group, offsets, ticks):
    """Return the same as stop_ticks, of arguments that have been checked; ticks is the span."""
    found = [None] * len(group)
    left = list(range(len(group)))
    start = 0
    while left:
        who, tick = first_alone(group, offsets, left, start, ticks)
        if who is None:
            break
        found[who] = tick
        left.remove(who)
        start = tick + 1
    return tuple(found)


def first_alone(group, offsets, left, start, ticks):
    """Return who is the first of those left to get through in so many ticks from start on, and when, or two None."""
    for tick in range(start, start + ticks):
        loud = [who for who in left if sends_at(group[who], offsets[who], tick)]
        if len(loud) == 1:
            return (loud[0], tick)
    return (None, None)


def last_stop(group):
    """Return the greatest of all stop_ticks, None if somebody never gets through, and the smallest such offsets."""
    check_span(group)
    many = multiplied(periods(group))
    if many > MOST_OFFSETS:
        raise TooMany(many, MOST_OFFSETS)
    ticks = span(group)
    last, found = (-1, None)
    for offsets in tuples_below(periods(group)):
        stopped = stops(group, offsets, ticks)
        if None in stopped:
            return (None, offsets)
        if max(stopped) > last:
            last, found = (max(stopped), offsets)
    return (last, found)
