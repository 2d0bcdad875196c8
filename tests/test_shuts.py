"""Points [60] and [61], with points [2] and [3] for these functions."""

import unittest
from itertools import combinations

from anyshift.counts import counts
from anyshift.errors import NoGroup, NoPeriod, NoRoom, NoSender
from anyshift.groups import classes
from anyshift.shuts import addition, is_safe, shut_out
from samples import (CLASSES_240, CLASSES_242, CLASSES_3600, HUGE, LARGE, SMALL_GROUPS, SPAN_420, SPAN_420_CLASSES_240,
                     SPAN_423, Calls, all_offsets, no_groups, no_integers, no_senders, plain_heard, plain_safe)

GROUP = ((4, (0, 1)), (6, (0, 2)))
OTHER = ((4, (0, 2)), (6, (0, 2, 4)))
SAME = ((2, (0,)), (2, (0,)), (2, (0,)))
CODE = ((7, (0, 1)), (7, (0, 2)))
MORE = ((6, (0, 1)), (5, (0,)), (3, (2,)))
SLOW = ((8, (0, 1, 2, 4)), (7, (0, 2, 4, 6)))
FOUR = ((2, (1,)), (4, (0, 1, 3)), (6, (5,)), (3, (0, 1)))

# Safe groups of two and of three patterns, for additions with few slots and with several.
SAFE = (
    ((2, (0,)), (3, (0,))), GROUP, CODE, MORE, SLOW, ((3, (0,)), (4, (1, 3)), (5, (0,))), ((8, (0, 1, 2)), (8, (0, 3))),
    ((6, (1, 2, 4, 5)), (7, (3, 5, 6)), (4, (0, 1))), ((6, (2, 3, 4)), (4, (0, 3)), (10, (0, 1, 6, 9))),
    ((5, (2, 4)), (3, (1, 2)), (4, (0, 3))),
)


def plain_addition(group, period):
    """The first of all patterns with the period, by slots, with which nobody is shut out by any offsets."""
    for many in range(1, period):
        for slots in combinations(range(period), many):
            if plain_safe(group + ((period, slots),)):
                return (period, slots)
    return None


class TestShutOut(Calls, unittest.TestCase):
    def test_examples(self):
        self.returns((0, 0), shut_out, group=OTHER, who=0)
        self.returns((0, 0), shut_out, group=OTHER, who=1)
        self.returns(None, shut_out, group=GROUP, who=0)
        self.returns(None, shut_out, group=GROUP, who=1)
        self.returns((0, 1), shut_out, group=((4, (0, 2)), (6, (1, 3, 5))), who=0)
        self.returns((0, 4), shut_out, group=((6, (0,)), (6, (1, 2))), who=0)
        self.returns(None, shut_out, group=((6, (0,)), (6, (1, 2))), who=1)

    def test_same_pattern_several_times(self):
        self.returns((0, 0, 0), shut_out, group=SAME, who=0)
        self.returns((0, 0, 0), shut_out, group=SAME, who=2)
        self.returns((0, 0), shut_out, group=(GROUP[0], GROUP[0]), who=1)

    def test_no_common_factor(self):
        for group in (((3, (0,)), (5, (1, 2))), SPAN_420, ((2, (0,)), (3, (0, 2)), (5, (1,)), (7, (0, 3, 4)))):
            for who in range(len(group)):
                self.returns(None, shut_out, group=group, who=who)
            self.returns(True, is_safe, group=group)

    def test_of_all_offsets(self):
        seen = set()
        for group in (*SMALL_GROUPS, CODE, MORE):
            lines = {offsets: plain_heard(group, offsets) for offsets in all_offsets(group)}
            found = [min((offsets for offsets in lines if who not in lines[offsets]), default=None)
                     for who in range(len(group))]
            for who, wanted in enumerate(found):
                self.returns(wanted, shut_out, group=group, who=who)
                self.assertTrue(wanted is None or wanted in classes(group))
            safe = found == [None] * len(group)
            self.returns(safe, is_safe, group=group)
            self.assertEqual(plain_safe(group), safe)
            seen.add((len(group), safe))
        self.assertEqual(seen, {(2, True), (2, False), (3, True), (3, False), (4, False)})

    def test_limits(self):
        self.returns(None, shut_out, group=SPAN_420, who=1)
        for who in range(3):
            self.returns(None, shut_out, group=SPAN_420_CLASSES_240, who=who)
        self.returns((0, 0, 1), shut_out, group=CLASSES_240, who=1)
        self.returns(None, shut_out, group=CLASSES_240, who=0)
        self.too_long(423, shut_out, group=SPAN_423, who=0)
        self.too_many(242, shut_out, group=CLASSES_242, who=0)
        self.too_many(3600, shut_out, group=CLASSES_3600, who=3)
        self.too_long(660, shut_out, group=LARGE, who=0)
        self.too_long(59 * 58 * 57 * 55, shut_out, group=HUGE, who=3)

    def test_wrong(self):
        for thing in no_groups():
            self.fails(NoGroup, shut_out, group=thing, who=0)
            self.fails(NoGroup, shut_out, group=thing, who=None)
        for group in (GROUP, FOUR, SPAN_423, CLASSES_242, LARGE, HUGE):
            for thing in no_senders(group):
                self.fails(NoSender, shut_out, group=group, who=thing)


class TestIsSafe(Calls, unittest.TestCase):
    def test_examples(self):
        for group in SAFE:
            self.returns(True, is_safe, group=group)
        for group in (OTHER, SAME, SAME[:2], FOUR, ((6, (0,)), (6, (1, 2))), ((6, (1, 2)), (6, (0,)))):
            self.returns(False, is_safe, group=group)

    def test_some_of_its_patterns(self):
        for group in (*SAFE, SPAN_420_CLASSES_240, ((2, (0,)), (3, (0, 2)), (5, (1,)), (7, (0, 3, 4)))):
            self.returns(True, is_safe, group=group)
            for many in range(2, len(group)):
                for some in combinations(group, many):
                    self.returns(True, is_safe, group=some)

    def test_limits(self):
        self.returns(True, is_safe, group=SPAN_420)
        self.returns(True, is_safe, group=SPAN_420_CLASSES_240)
        self.returns(False, is_safe, group=CLASSES_240)
        self.too_long(423, is_safe, group=SPAN_423)
        self.too_many(242, is_safe, group=CLASSES_242)
        self.too_many(3600, is_safe, group=CLASSES_3600)
        self.too_long(660, is_safe, group=LARGE)
        self.too_long(59 * 58 * 57 * 55, is_safe, group=HUGE)

    def test_wrong(self):
        for thing in no_groups():
            self.fails(NoGroup, is_safe, group=thing)


class TestAddition(Calls, unittest.TestCase):
    def test_examples(self):
        self.returns((5, (0,)), addition, group=GROUP, period=5)
        self.returns(None, addition, group=GROUP, period=2)
        self.returns((2, (0,)), addition, group=SLOW, period=2)
        self.returns((7, (0, 1, 2)), addition, group=SLOW, period=7)
        self.returns((8, (0, 1, 5)), addition, group=SLOW, period=8)

    def test_of_all_patterns(self):
        seen = set()
        for group in SAFE:
            for period in range(2, 9):
                wanted = plain_addition(group, period)
                self.returns(wanted, addition, group=group, period=period)
                seen.add((len(group), None if wanted is None else len(wanted[1])))
        self.assertEqual(seen, {(many, slots) for many in (2, 3) for slots in (None, 1, 2, 3)})

    def test_all_small_patterns(self):
        patterns = [(period, slots) for period in (2, 4, 6) for many in range(1, period)
                    for slots in combinations(range(period), many) if slots[0] == 0][::3]
        for one, other in combinations(patterns, 2):
            for period in (4, 6):
                self.returns(plain_addition((one, other), period), addition, group=(one, other), period=period)

    def test_nobody_is_shut_out(self):
        for group in SAFE:
            for period in range(2, 9):
                found = addition(group, period)
                if found is not None:
                    self.assertEqual(found[0], period)
                    for offsets in classes((*group, found)):
                        self.assertGreater(min(counts((*group, found), offsets)[1:-1]), 0)

    def test_none(self):
        for group in (OTHER, SAME, SAME[:2], ((6, (0,)), (6, (1, 2))), FOUR[:2]):
            for period in range(2, 9):
                self.returns(None, addition, group=group, period=period)
        self.returns(None, addition, group=((2, (0,)), (4, (0, 1, 2))), period=2)

    def test_limits_of_the_longer_group(self):
        self.returns((7, (0,)), addition, group=((60, (0, 1, 3)), (4, (0, 1))), period=7)
        self.returns((5, (0,)), addition, group=((12, (0, 1, 9)), (7, (0, 1))), period=5)
        self.too_long(424, addition, group=((53, (0, 1)), (2, (0,))), period=8)
        self.too_long(840, addition, group=SPAN_420, period=8)
        self.too_long(423, addition, group=SPAN_423, period=3)
        self.too_long(846, addition, group=SPAN_423, period=2)
        self.too_long(423 * 8, addition, group=SPAN_423, period=8)
        wide = ((60, (0, 7)), (60, (0, 1, 3, 20)))
        self.returns(plain_addition(wide, 4), addition, group=wide, period=4)
        self.returns(plain_addition(wide, 3), addition, group=wide, period=3)
        self.too_many(300, addition, group=wide, period=5)
        self.too_many(360, addition, group=wide, period=6)
        wide = ((22, (0, 1)), (11, (0, 2)), (11, (0, 4)))
        self.too_many(242, addition, group=wide, period=2)
        self.returns(plain_addition(wide, 3), addition, group=wide, period=3)
        self.too_many(242, addition, group=CLASSES_242, period=3)
        self.too_many(21600, addition, group=((60, (0,)), (60, (0, 1)), (60, (0,))), period=6)
        self.too_long(59 * 58 * 57 * 5, addition, group=HUGE[:3], period=5)
        self.too_long(840, addition, group=((60, (0,)), (60, (0, 1)), (56, (0,))), period=8)

    def test_no_group(self):
        for thing in no_groups():
            self.fails(NoGroup, addition, group=thing, period=5)
            self.fails(NoGroup, addition, group=thing, period=None)

    def test_no_room(self):
        for group in (FOUR, SAME + SAME[:1], CLASSES_3600, LARGE, HUGE):
            for period in (2, 5, 8, 1, 9, True, None):
                self.fails(NoRoom, addition, group=group, period=period)

    def test_no_period(self):
        for group in (GROUP, OTHER, CODE, SPAN_423, CLASSES_242, HUGE[:3]):
            for thing in no_integers() + [1, 9, 0, -2, -8, 10, 60, 10 ** 12]:
                self.fails(NoPeriod, addition, group=group, period=thing)
        for period in (2, 8):
            addition(GROUP, period)


if __name__ == "__main__":
    unittest.main()
