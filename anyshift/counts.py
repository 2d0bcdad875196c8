"""Counts: what is heard in the ticks of a span, and how often."""

from anyshift.errors import NoKind, NoSome
from anyshift.groups import check_group, check_offsets, check_span, classes, is_offsets, periods, span
from anyshift.patterns import sends_at
from anyshift.values import fraction, is_integer, is_integer_from, is_set, multiplied

QUIET = -1
COLLISION = -2


def line_heard(group, offsets, ticks):
    """Return the list of what is heard in so many ticks from 0 on, of arguments that have been checked."""
    line = [QUIET] * ticks
    for who, (period, slots) in enumerate(group):
        for slot in slots:
            for tick in range((slot + offsets[who]) % period, ticks, period):
                line[tick] = who if line[tick] == QUIET else COLLISION
    return line


def heard(group, offsets):
    """Return a tuple of what is heard in the ticks of a span."""
    check_offsets(group, offsets)
    check_span(group)
    return tuple(line_heard(group, offsets, span(group)))


def counts(group, offsets):
    """Return how many ticks of a span are quiet, in how many each sender gets through, how many collide."""
    line = heard(group, offsets)
    senders = [line.count(who) for who in range(len(group))]
    return (line.count(QUIET), *senders, line.count(COLLISION))


def meets(group, offsets, some):
    """Return in how many ticks of a span all senders of some send."""
    check_offsets(group, offsets)
    if not is_set(some, 0, len(group) - 1) or not some:
        raise NoSome("some are a set of one or more numbers of patterns")
    check_span(group)
    return len([tick for tick in range(span(group)) if all_send(group, offsets, some, tick)])


def all_send(group, offsets, some, tick):
    """Tell whether all senders of some send in the tick."""
    return all([sends_at(group[who], offsets[who], tick) for who in some])


def check_kind(group, kind):
    """Raise NoGroup for what is none, NoKind for what is no kind of tick in it."""
    check_group(group)
    if not is_integer_from(kind, COLLISION, len(group) - 1):
        raise NoKind("a kind of tick is -1, the number of a sender, or -2")


def class_lines(group, ticks):
    """Return a list of (line, offsets) for all classes: what is heard in so many ticks from 0 on."""
    return [(line_heard(group, offsets, ticks), offsets) for offsets in classes(group)]


def kind_rows(group, kind):
    """Return a list of (many, offsets) for all classes: how many ticks of the kind there are."""
    check_kind(group, kind)
    return [(line.count(kind), offsets) for line, offsets in class_lines(group, span(group))]


def fewest(group, kind):
    """Return the least number of ticks of the kind, and the smallest offsets that have it."""
    return min(kind_rows(group, kind))


def greatest(group, kind):
    """Return the greatest number of ticks of the kind, and the smallest offsets that have it."""
    # Of several that are as great, max takes the first one, and the classes are ascending.
    return max(kind_rows(group, kind), key=lambda row: row[0])


def average(group, kind):
    """Return the mean number of ticks of the kind for all offsets, a fraction."""
    check_kind(group, kind)
    bottom = multiplied(periods(group))
    if kind == COLLISION:
        top = bottom - sum([chances(group, alone) for alone in range(QUIET, len(group))])
    else:
        top = chances(group, kind)
    return fraction(span(group) * top, bottom)


def chances(group, alone):
    """Return for how many choices of a tick in each period only this sender sends, or none for QUIET."""
    many = 1
    for who, (period, slots) in enumerate(group):
        many *= len(slots) if who == alone else period - len(slots)
    return many


def shows_fewest(group, kind, thing):
    """Tell whether any value is the least number of ticks of the kind with any offsets that have it."""
    least = fewest(group, kind)[0]
    if not isinstance(thing, tuple) or len(thing) != 2:
        return False
    many, offsets = thing
    if not is_integer(many) or many != least or not is_offsets(group, offsets):
        return False
    return line_heard(group, offsets, span(group)).count(kind) == least
