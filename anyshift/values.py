"""Integers, sets, fractions and products, as all other modules use them."""

from math import gcd


def is_integer(thing):
    """Tell whether any value is an integer; a bool is none."""
    return isinstance(thing, int) and not isinstance(thing, bool)


def is_integer_from(thing, low, high):
    """Tell whether any value is an integer from low to high."""
    return is_integer(thing) and low <= thing <= high


def is_set(thing, low, high):
    """Tell whether any value is a set, perhaps empty, of integers from low to high."""
    if not isinstance(thing, tuple):
        return False
    if not all([is_integer_from(part, low, high) for part in thing]):
        return False
    return all([part < after for part, after in zip(thing, thing[1:])])


def fraction(top, bottom):
    """Return top by bottom without a common factor; bottom is above 0."""
    common = gcd(top, bottom)
    return (top // common, bottom // common)


def multiplied(numbers):
    """Return the product of the numbers of a list."""
    whole = 1
    for number in numbers:
        whole *= number
    return whole
