"""Senders that are shut out, groups in which nobody is, and patterns that can be added to them."""

from math import lcm

from anyshift.counts import QUIET, class_lines, fewest
from anyshift.errors import NoPeriod, NoRoom
from anyshift.groups import MOST_SENDERS, check_group, check_sender, check_size, span
from anyshift.patterns import LEAST_PERIOD, turned_slots
from anyshift.values import is_integer_from

GREATEST_ADDED = 8


def shut_out(group, who):
    """Return the smallest offsets that shut out the sender, or None."""
    check_sender(group, who)
    many, offsets = fewest(group, who)
    return offsets if many == 0 else None


def is_safe(group):
    """Tell whether nobody is shut out by any offsets."""
    rows = class_lines(group, span(group))
    return all([who in line for line, _ in rows for who in range(len(group))])


def addition(group, period):
    """Return the pattern with this period and the fewest slots that can be added safely, or None."""
    check_addition(group, period)
    rows = heard_rests(group, period)
    for slots in slot_choices(period):
        if can_be_added((period, slots), rows):
            return (period, slots)
    return None


def check_addition(group, period):
    """Raise what addition raises: NoGroup, NoRoom, NoPeriod, TooLong or TooMany."""
    check_group(group)
    if len(group) == MOST_SENDERS:
        raise NoRoom("the group has four patterns already")
    if not is_integer_from(period, LEAST_PERIOD, GREATEST_ADDED):
        raise NoPeriod("the period of an addition is an integer from 2 to 8")
    check_size((*group, (period, (0,))))


def heard_rests(group, period):
    """Return a list of (what, rests), each once: with some offsets it is heard in ticks with these rests alone.

    What is heard is a sender that gets through, or quiet; the rests are those of the ticks modulo the period.
    """
    found = {}
    for line, _ in class_lines(group, lcm(span(group), period)):
        for what in range(QUIET, len(group)):
            rests = sorted({tick % period for tick, sound in enumerate(line) if sound == what})
            found[(what, tuple(rests))] = True
    return list(found)


def slot_choices(period):
    """Return a list of all slots that a pattern may have, those with fewer ahead, and the smaller ones of these."""
    rows = []
    for mask in range(1, (1 << period) - 1):
        rows.append(tuple([slot for slot in range(period) if (mask >> slot) & 1]))
    return sorted(rows, key=lambda slots: (len(slots), slots))


def can_be_added(pattern, rows):
    """Tell whether nobody is shut out if the pattern is added, with any offset, to what is heard by these rows."""
    for by in range(pattern[0]):
        slots = turned_slots(pattern, by)
        for what, rests in rows:
            # A sender needs a tick that the new one leaves alone, the new one a tick that was quiet.
            if not any([(rest in slots) == (what == QUIET) for rest in rests]):
                return False
    return True
