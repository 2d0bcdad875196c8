"""Patterns: in which ticks one sender sends."""

from anyshift.errors import NoNumber, NoOffset, NoPattern, NoTick
from anyshift.values import fraction, is_integer, is_integer_from, is_set

LEAST_PERIOD = 2
GREATEST_PERIOD = 60


def is_pattern(thing):
    """Tell whether any value is a pattern."""
    if not isinstance(thing, tuple) or len(thing) != 2:
        return False
    period, slots = thing
    if not is_integer_from(period, LEAST_PERIOD, GREATEST_PERIOD):
        return False
    return is_set(slots, 0, period - 1) and 1 <= len(slots) < period


def check_pattern(pattern):
    """Raise NoPattern for what is none."""
    if not is_pattern(pattern):
        raise NoPattern("a pattern is a tuple of a period and a set of some, but not all, of its slots")


def sends(pattern, offset, tick):
    """Tell whether a sender with this pattern and offset sends in the tick."""
    check_pattern(pattern)
    if not is_integer_from(offset, 0, pattern[0] - 1):
        raise NoOffset("an offset is an integer from 0 to the period less 1")
    if not is_integer(tick):
        raise NoTick("a tick is an integer")
    return sends_at(pattern, offset, tick)


def sends_at(pattern, offset, tick):
    """Tell the same as sends, of arguments that have been checked."""
    period, slots = pattern
    return (tick - offset) % period in slots


def share(pattern):
    """Return the fraction of the slots in the period."""
    check_pattern(pattern)
    period, slots = pattern
    return fraction(len(slots), period)


def shortest(pattern):
    """Return the pattern with the least period that sends in the same ticks."""
    check_pattern(pattern)
    period, slots = pattern
    # The least turn that changes nothing divides the period: were there a rest, it would be a lesser one.
    least = min([by for by in range(LEAST_PERIOD, period + 1) if turned_slots(pattern, by) == slots])
    return (least, tuple([slot for slot in slots if slot < least]))


def turned(pattern, by):
    """Return the pattern that sends with offset 0 when this one does with the offset by."""
    check_pattern(pattern)
    if not is_integer(by):
        raise NoNumber("a pattern is turned by an integer")
    return (pattern[0], turned_slots(pattern, by))


def turned_slots(pattern, by):
    """Return the slots of a pattern that is turned by any integer."""
    period, slots = pattern
    return tuple(sorted([(slot + by) % period for slot in slots]))


def matching(one, other):
    """Return the least offset of other with which it sends in the ticks of one, or None."""
    # Who sends in the same ticks has the same shortest period, however often it is written out.
    wanted = shortest(one)
    turning = shortest(other)
    if wanted[0] != turning[0]:
        return None
    for offset in range(wanted[0]):
        if turned_slots(turning, offset) == wanted[1]:
            return offset
    return None
