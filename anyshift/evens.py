"""Even groups: their counts are the same for all offsets."""

from math import gcd

from anyshift.counts import QUIET, kind_rows
from anyshift.errors import NoShares
from anyshift.groups import LEAST_SENDERS, MOST_SENDERS
from anyshift.patterns import GREATEST_PERIOD
from anyshift.values import is_integer, multiplied


def is_even(group):
    """Tell whether the counts of the group are the same for all offsets."""
    return uneven(group) is None


def uneven(group):
    """Return the first one of the classes and the first one with another number of quiet ticks, or None."""
    rows = kind_rows(group, QUIET)
    first, zeros = rows[0]
    for many, offsets in rows:
        if many != first:
            return (zeros, offsets)
    return None


def even_with(shares):
    """Return an even group whose patterns have these shares."""
    check_shares(shares)
    found = []
    ahead = 1
    for top, bottom in shares:
        # The digit of a tick is how often the period ahead has passed: at first it is below the top.
        found.append((ahead * bottom, tuple(range(ahead * top))))
        ahead *= bottom
    return tuple(found)


def check_shares(shares):
    """Raise NoShares for what are no shares that a group is made for."""
    if not isinstance(shares, tuple) or not LEAST_SENDERS <= len(shares) <= MOST_SENDERS:
        raise NoShares("shares are a tuple of two to four fractions")
    if not all([is_share(part) for part in shares]):
        raise NoShares("a share is a fraction without a common factor, above 0 and below 1")
    # The product is the period of the last pattern.
    if multiplied([bottom for _, bottom in shares]) > GREATEST_PERIOD:
        raise NoShares("the product of the bottoms is at most 60")


def is_share(thing):
    """Tell whether any value is a fraction that is above 0 and below 1."""
    if not isinstance(thing, tuple) or len(thing) != 2:
        return False
    top, bottom = thing
    return is_integer(top) and is_integer(bottom) and 0 < top < bottom and gcd(top, bottom) == 1
