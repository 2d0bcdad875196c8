"""Codes: patterns with the same period, each two of which meet at most once in it."""

from anyshift.errors import NoMany, NoPeriod, NoSlots, OtherPeriods
from anyshift.patterns import LEAST_PERIOD, check_pattern
from anyshift.values import is_integer_from

GREATEST_CODE_PERIOD = 13
LEAST_SLOTS = 2
MOST_SLOTS = 3
MOST_PATTERNS = 4


def distances(pattern):
    """Return the set of all differences of two different slots, modulo the period."""
    check_pattern(pattern)
    period, slots = pattern
    return tuple(sorted({(one - other) % period for one in slots for other in slots if one != other}))


def meet_once(one, other):
    """Tell whether both send in at most one tick of a period, for all offsets."""
    check_pattern(one)
    check_pattern(other)
    if one[0] != other[0]:
        raise OtherPeriods("the two patterns have different periods")
    return nothing_common(distances(one), distances(other))


def nothing_common(one, other):
    """Tell whether two sets have nothing in common."""
    return not any([part in other for part in one])


def smallest_code(period, slots, many):
    """Return the smallest code of so many patterns with so many slots each, or None."""
    check_code(period, slots)
    if not is_integer_from(many, 1, MOST_PATTERNS):
        raise NoMany("the number of patterns is an integer from 1 to 4")
    return first_code(code_rows(period, slots), many)


def code_size(period, slots):
    """Return the greatest number of patterns of a code with so many slots each."""
    check_code(period, slots)
    rows = code_rows(period, slots)
    many = 0
    # What is left of a code without one of its patterns is a code, so that no number is left out.
    while first_code(rows, many + 1) is not None:
        many += 1
    return many


def check_code(period, slots):
    """Raise NoPeriod or NoSlots for what no code is looked for with."""
    if not is_integer_from(period, LEAST_PERIOD, GREATEST_CODE_PERIOD):
        raise NoPeriod("the period of a code is an integer from 2 to 13")
    if not is_integer_from(slots, LEAST_SLOTS, MOST_SLOTS):
        raise NoSlots("the number of slots is 2 or 3")


def code_rows(period, slots):
    """Return the ascending list of (pattern, distances) for all patterns that a code may have."""
    # A pattern has fewer slots than its period has ticks.
    if slots >= period:
        return []
    rows = [(0,)]
    for _ in range(slots - 1):
        rows = [(*row, slot) for row in rows for slot in range(row[-1] + 1, period)]
    return [((period, row), distances((period, row))) for row in rows]


def first_code(rows, many):
    """Return the smallest code of so many of the patterns of the ascending rows, or None."""
    if many == 0:
        return ()
    for at, (pattern, taken) in enumerate(rows):
        left = [row for row in rows[at + 1:] if nothing_common(taken, row[1])]
        behind = first_code(left, many - 1)
        if behind is not None:
            return (pattern, *behind)
    return None
