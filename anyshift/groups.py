"""Groups of senders, and offsets that are the same but for time."""

from math import gcd, lcm

from anyshift.errors import NoGroup, NoOffsets, NoSender, TooLong, TooMany
from anyshift.patterns import is_pattern
from anyshift.values import is_integer_from, multiplied

LEAST_SENDERS = 2
MOST_SENDERS = 4
LONGEST_SPAN = 420
MOST_CLASSES = 240


def is_group(thing):
    """Tell whether any value is a group."""
    if not isinstance(thing, tuple) or not LEAST_SENDERS <= len(thing) <= MOST_SENDERS:
        return False
    return all([is_pattern(part) for part in thing])


def check_group(group):
    """Raise NoGroup for what is none."""
    if not is_group(group):
        raise NoGroup("a group is a tuple of two to four patterns")


def check_sender(group, who):
    """Raise NoGroup for what is none, NoSender for what is no number of one of its patterns."""
    check_group(group)
    if not is_integer_from(who, 0, len(group) - 1):
        raise NoSender("a sender is an integer from 0 to the number of patterns less 1")


def periods(group):
    """Return the list of the periods of a group that has been checked."""
    return [pattern[0] for pattern in group]


def span(group):
    """Return after how many ticks everything repeats."""
    check_group(group)
    whole = 1
    for period in periods(group):
        whole = lcm(whole, period)
    return whole


def is_offsets(group, thing):
    """Tell whether any value is offsets of the group."""
    check_group(group)
    if not isinstance(thing, tuple) or len(thing) != len(group):
        return False
    return all([is_integer_from(part, 0, period - 1) for part, period in zip(thing, periods(group))])


def check_offsets(group, offsets):
    """Raise NoGroup for what is none, NoOffsets for what are no offsets of it."""
    if not is_offsets(group, offsets):
        raise NoOffsets("offsets are a tuple with an integer from 0 to the period less 1 for each pattern")


def check_span(group):
    """Raise NoGroup for what is none, TooLong if a span has too many ticks to go through."""
    ticks = span(group)
    if ticks > LONGEST_SPAN:
        raise TooLong(ticks, LONGEST_SPAN)


def check_size(group):
    """Raise NoGroup for what is none, TooLong or TooMany if it is too large to go through its classes."""
    check_span(group)
    many = multiplied(class_sizes(group))
    if many > MOST_CLASSES:
        raise TooMany(many, MOST_CLASSES)


def first_with_rest(start, step, period, rest):
    """Return the first of start, start + step and so on with this rest modulo the period, or None."""
    # The rests repeat after at most as many steps as the period has ticks.
    for tick in range(start, start + step * period, step):
        if tick % period == rest:
            return tick
    return None


def ticks_later(group, offsets, others):
    """Return how many ticks later than offsets others are, at least, or None."""
    check_offsets(group, offsets)
    check_offsets(group, others)
    later = 0
    step = 1
    for period, offset, other in zip(periods(group), offsets, others):
        later = first_with_rest(later, step, period, (other - offset) % period)
        if later is None:
            return None
        step = lcm(step, period)
    return later


def earliest(group, offsets):
    """Return the smallest offsets that are the same but for time."""
    check_offsets(group, offsets)
    later = 0
    step = 1
    found = []
    for period, offset in zip(periods(group), offsets):
        # Steps that keep the offsets ahead move this one by multiples of the common factor, no others.
        least = (offset + later) % gcd(step, period)
        later = first_with_rest(later, step, period, (least - offset) % period)
        step = lcm(step, period)
        found.append(least)
    return tuple(found)


def class_sizes(group):
    """Return for each pattern how many of its offsets, from 0 on, stand in the classes."""
    sizes = []
    step = 1
    for period in periods(group):
        sizes.append(gcd(step, period))
        step = lcm(step, period)
    return sizes


def classes(group):
    """Return the ascending tuple of the offsets that are the earliest themselves."""
    check_size(group)
    return tuple(tuples_below(class_sizes(group)))


def tuples_below(sizes):
    """Return the ascending list of all tuples with an integer from 0 to the size less 1 for each size."""
    rows = [()]
    for size in sizes:
        rows = [(*row, number) for row in rows for number in range(size)]
    return rows
