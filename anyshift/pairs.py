"""Pairs: how often two senders send in the same tick, and what is left for a sender at least."""

from math import gcd, lcm

from anyshift.groups import check_sender, span
from anyshift.patterns import check_pattern


def pair_meets(one, other):
    """Return for each offset of other below the common factor in how many ticks both send."""
    check_pattern(one)
    check_pattern(other)
    common = gcd(one[0], other[0])
    many = [0] * common
    # A slot of each falls together just once, with the offsets that leave the rest of their difference.
    for slot in one[1]:
        for place in other[1]:
            many[(slot - place) % common] += 1
    return tuple(many)


def sure_bound(group, who):
    """Return how often the sender sends in a span, less the most that it can meet each other one."""
    check_sender(group, who)
    ticks = span(group)
    period, slots = group[who]
    sure = len(slots) * (ticks // period)
    for number, other in enumerate(group):
        if number != who:
            sure -= max(pair_meets(group[who], other)) * (ticks // lcm(period, other[0]))
    return sure
