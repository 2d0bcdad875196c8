"""Point [40], with points [2], [3] and [20] for these functions."""

import unittest
from math import gcd, lcm

from anyshift.counts import fewest
from anyshift.errors import NoGroup, NoPattern, NoSender
from anyshift.pairs import pair_meets, sure_bound
from samples import (CLASSES_240, CLASSES_242, CLASSES_3600, HUGE, HUGE_SHARED, LARGE, PATTERNS, SMALL_GROUPS,
                     SPAN_420, SPAN_423, Calls, no_groups, no_patterns, no_senders)

GROUP = ((4, (0, 1)), (6, (0, 2)))
OTHER = ((4, (0, 2)), (6, (0, 2, 4)))
SAME = ((2, (0,)), (2, (0,)), (2, (0,)))


def plain_pair(one, other, offset):
    """In how many ticks of as many as the least common multiple both send, tick by tick."""
    many = 0
    for tick in range(lcm(one[0], other[0])):
        many += tick % one[0] in one[1] and (tick - offset) % other[0] in other[1]
    return many


def plain_bound(group, who):
    """How often the sender sends in a span, less the most that it meets each other one for any of its offsets."""
    ticks = lcm(*[period for period, _ in group])
    sure = ticks // group[who][0] * len(group[who][1])
    for number, other in enumerate(group):
        if number != who:
            most = max(plain_pair(group[who], other, offset) for offset in range(other[0]))
            sure -= most * ticks // lcm(group[who][0], other[0])
    return sure


class TestPairMeets(Calls, unittest.TestCase):
    def test_examples(self):
        self.returns((2, 2), pair_meets, one=GROUP[0], other=GROUP[1])
        self.returns((6, 0), pair_meets, one=OTHER[0], other=OTHER[1])
        self.returns((0, 6), pair_meets, one=(4, (0, 2)), other=(6, (1, 3, 5)))
        self.returns((1, 0), pair_meets, one=(2, (0,)), other=(2, (0,)))

    def test_the_second_one_has_the_offset(self):
        self.returns((0, 0, 0, 0, 0, 1), pair_meets, one=(6, (0,)), other=(6, (1,)))
        self.returns((0, 1, 0, 0, 0, 0), pair_meets, one=(6, (1,)), other=(6, (0,)))
        self.returns((1, 0, 1), pair_meets, one=(9, (2,)), other=(3, (0, 2)))
        self.returns((1, 1, 0), pair_meets, one=(3, (0, 2)), other=(9, (2,)))

    def test_same_pattern(self):
        self.returns((2, 0, 1, 0, 1, 0), pair_meets, one=(6, (0, 2)), other=(6, (0, 2)))
        self.returns((2, 0, 2, 0), pair_meets, one=(4, (1, 3)), other=(4, (1, 3)))
        self.returns((59,) + (58,) * 59, pair_meets, one=(60, tuple(range(59))), other=(60, tuple(range(59))))

    def test_no_common_factor(self):
        self.returns((2,), pair_meets, one=(3, (0,)), other=(5, (1, 2)))
        self.returns((4,), pair_meets, one=(59, (0, 58)), other=(60, (3, 4)))
        self.returns((59 * 58,), pair_meets, one=(60, tuple(range(59))), other=(59, tuple(range(58))))

    def test_long_spans(self):
        self.returns((2, 2), pair_meets, one=(60, (0, 2)), other=(58, (2, 3)))
        self.returns((0, 4), pair_meets, one=(60, (0, 2)), other=(58, (1, 3)))

    def test_tick_by_tick(self):
        for one in PATTERNS:
            for other in PATTERNS:
                common = gcd(one[0], other[0])
                wanted = tuple(plain_pair(one, other, offset) for offset in range(common))
                self.returns(wanted, pair_meets, one=one, other=other)
                self.assertEqual(sum(wanted), len(one[1]) * len(other[1]))

    def test_greater_offsets(self):
        for one in PATTERNS[:14]:
            for other in PATTERNS[:14]:
                found = pair_meets(one, other)
                for offset in range(other[0]):
                    self.assertEqual(plain_pair(one, other, offset), found[offset % len(found)])

    def test_wrong(self):
        for thing in no_patterns():
            self.fails(NoPattern, pair_meets, one=thing, other=(6, (0, 2)))
            self.fails(NoPattern, pair_meets, one=(6, (0, 2)), other=thing)
            self.fails(NoPattern, pair_meets, one=thing, other=thing)
            self.fails(NoPattern, pair_meets, one=thing, other=None)


class TestSureBound(Calls, unittest.TestCase):
    def test_examples(self):
        self.returns(4, sure_bound, group=GROUP, who=0)
        self.returns(2, sure_bound, group=GROUP, who=1)
        self.returns(0, sure_bound, group=OTHER, who=0)
        self.returns(0, sure_bound, group=OTHER, who=1)
        self.returns(12 // 4 * 2 - 6 - 4, sure_bound, group=((4, (0, 2)), (6, (0, 2, 4)), (3, (0, 1))), who=0)

    def test_same_pattern_several_times(self):
        for who in range(3):
            self.returns(-1, sure_bound, group=SAME, who=who)
        for who in range(4):
            self.returns(-2, sure_bound, group=SAME + SAME[:1], who=who)
            self.returns(-4, sure_bound, group=((4, (0, 3)),) * 4, who=who)
        for who in range(2):
            self.returns(0, sure_bound, group=SAME[:2], who=who)
        self.returns(6 - 6 - 2, sure_bound, group=(GROUP[0], GROUP[0], GROUP[1]), who=0)
        self.returns(4 - 2 - 2, sure_bound, group=(GROUP[0], GROUP[0], GROUP[1]), who=2)

    def test_tick_by_tick(self):
        for group in (*SMALL_GROUPS, SPAN_420, CLASSES_240):
            for who in range(len(group)):
                self.returns(plain_bound(group, who), sure_bound, group=group, who=who)

    def test_never_greater_than_fewest(self):
        less = 0
        for group in (*SMALL_GROUPS, SPAN_420, CLASSES_240):
            for who in range(len(group)):
                few = fewest(group, who)[0]
                self.assertLessEqual(sure_bound(group, who), few)
                less += sure_bound(group, who) < few
                if len(group) == 2:
                    self.assertEqual(sure_bound(group, who), few)
        self.assertGreater(less, 0)

    def test_above_the_limits(self):
        for group in (SPAN_423, CLASSES_242, CLASSES_3600, LARGE, HUGE, HUGE_SHARED):
            for who in range(len(group)):
                self.returns(plain_bound(group, who), sure_bound, group=group, who=who)
        ticks = 59 * 58 * 57 * 55
        wanted = ticks // 58 - ticks // 58 * 2 // 59 - ticks // 58 * 3 // 57 - ticks // 58 * 54 // 55
        self.returns(wanted, sure_bound, group=HUGE, who=1)

    def test_wrong(self):
        for thing in no_groups():
            self.fails(NoGroup, sure_bound, group=thing, who=0)
            self.fails(NoGroup, sure_bound, group=thing, who=None)
        for group in (GROUP, SAME, SPAN_423, CLASSES_242, HUGE):
            for thing in no_senders(group):
                self.fails(NoSender, sure_bound, group=group, who=thing)


if __name__ == "__main__":
    unittest.main()
