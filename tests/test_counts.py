"""Points [30] and [31], with points [2] and [3] for these functions."""

import unittest
from fractions import Fraction
from math import lcm

from anyshift.counts import average, counts, fewest, greatest, heard, meets, shows_fewest
from anyshift.errors import NoGroup, NoKind, NoOffsets, NoSome
from anyshift.groups import classes
from samples import (CLASSES_240, CLASSES_242, CLASSES_3600, HUGE, HUGE_SHARED, LARGE, SMALL_GROUPS, SPAN_420,
                     SPAN_423, Calls, all_offsets, kinds, no_groups, no_integers, no_offsets, plain_counts,
                     plain_heard, plain_span)

GROUP = ((4, (0, 1)), (6, (0, 2)))
OTHER = ((4, (0, 2)), (6, (0, 2, 4)))
SAME = ((2, (0,)), (2, (0,)), (2, (0,)))
FOUR = ((2, (1,)), (4, (0, 1, 3)), (6, (5,)), (3, (0, 1)))


def some_offsets(group):
    """A few of all offsets, the first and the last among them."""
    choices = all_offsets(group)
    return choices[::max(1, len(choices) // 7)] + choices[-1:]


def no_kinds(group):
    """Values of all kinds but kinds of ticks, made anew."""
    return no_integers() + [-3, len(group), len(group) + 1, 10 ** 12, -10 ** 12]


class TestHeard(Calls, unittest.TestCase):
    def test_examples(self):
        self.returns((-2, 0, 1, -1, 0, 0, 1, -1, -2, 0, -1, -1), heard, group=GROUP, offsets=(0, 0))
        self.returns((0, -2, -1, 1, 0, 0, -1, 1, 0, -2, -1, -1), heard, group=GROUP, offsets=(0, 1))
        self.returns((-2, -1), heard, group=SAME, offsets=(0, 0, 0))
        self.returns((-2, 2), heard, group=SAME, offsets=(0, 0, 1))
        self.returns((1, -2), heard, group=SAME, offsets=(1, 0, 1))
        self.returns((-2, -1), heard, group=SAME + SAME[:1], offsets=(0, 0, 0, 0))

    def test_tick_by_tick(self):
        for group in SMALL_GROUPS:
            for offsets in some_offsets(group):
                self.returns(plain_heard(group, offsets), heard, group=group, offsets=offsets)

    def test_limits(self):
        self.returns(plain_heard(SPAN_420, (59, 6)), heard, group=SPAN_420, offsets=(59, 6))
        self.too_long(423, heard, group=SPAN_423, offsets=(0, 0))
        self.too_long(660, heard, group=LARGE, offsets=(0, 0, 0, 0))
        self.returns(plain_heard(CLASSES_242, (21, 0, 10)), heard, group=CLASSES_242, offsets=(21, 0, 10))
        zeros = (0, 0, 0, 0)
        self.returns(plain_heard(CLASSES_3600, zeros), heard, group=CLASSES_3600, offsets=zeros)


class TestCounts(Calls, unittest.TestCase):
    def test_examples(self):
        self.returns((4, 4, 2, 2), counts, group=GROUP, offsets=(0, 0))
        self.returns((4, 4, 2, 2), counts, group=GROUP, offsets=(0, 1))
        self.returns((6, 0, 0, 6), counts, group=OTHER, offsets=(0, 0))
        self.returns((0, 6, 6, 0), counts, group=OTHER, offsets=(0, 1))
        self.returns((0, 0, 0, 1, 1), counts, group=SAME, offsets=(0, 0, 1))
        self.returns((0, 1, 0, 0, 1), counts, group=SAME, offsets=(0, 1, 1))

    def test_tick_by_tick(self):
        for group in SMALL_GROUPS:
            for offsets in some_offsets(group):
                self.returns(plain_counts(group, offsets), counts, group=group, offsets=offsets)

    def test_limits(self):
        self.returns(plain_counts(SPAN_420, (59, 6)), counts, group=SPAN_420, offsets=(59, 6))
        self.too_long(423, counts, group=SPAN_423, offsets=(8, 46))
        self.returns(plain_counts(CLASSES_242, (21, 0, 10)), counts, group=CLASSES_242, offsets=(21, 0, 10))


class TestHeardAndCountsWrong(Calls, unittest.TestCase):
    def test_no_group(self):
        for thing in no_groups():
            for function in (heard, counts):
                self.fails(NoGroup, function, group=thing, offsets=(0, 0))
                self.fails(NoGroup, function, group=thing, offsets=None)
            self.fails(NoGroup, meets, group=thing, offsets=(0, 0), some=(0,))
            self.fails(NoGroup, meets, group=thing, offsets=None, some=None)

    def test_no_offsets(self):
        for group in (GROUP, FOUR, SPAN_423, HUGE):
            for thing in no_offsets(group):
                for function in (heard, counts):
                    self.fails(NoOffsets, function, group=group, offsets=thing)
                self.fails(NoOffsets, meets, group=group, offsets=thing, some=(0,))
                self.fails(NoOffsets, meets, group=group, offsets=thing, some=())


class TestMeets(Calls, unittest.TestCase):
    def test_examples(self):
        self.returns(2, meets, group=GROUP, offsets=(0, 0), some=(0, 1))
        self.returns(6, meets, group=GROUP, offsets=(0, 0), some=(0,))
        self.returns(4, meets, group=GROUP, offsets=(3, 5), some=(1,))
        self.returns(6, meets, group=OTHER, offsets=(0, 0), some=(0, 1))
        self.returns(0, meets, group=OTHER, offsets=(0, 1), some=(0, 1))
        self.returns(1, meets, group=SAME, offsets=(0, 1, 0), some=(0, 2))
        self.returns(0, meets, group=SAME, offsets=(0, 1, 0), some=(0, 1))
        self.returns(0, meets, group=SAME, offsets=(0, 1, 0), some=(0, 1, 2))

    def test_tick_by_tick(self):
        for group in SMALL_GROUPS:
            sets = [tuple(who for who in range(len(group)) if mask & 1 << who) for mask in range(1, 1 << len(group))]
            for offsets in some_offsets(group):
                for some in sets:
                    wanted = 0
                    for tick in range(plain_span(group)):
                        wanted += all((tick - offsets[who]) % group[who][0] in group[who][1] for who in some)
                    self.returns(wanted, meets, group=group, offsets=offsets, some=some)

    def test_limits(self):
        self.returns(3 * 2, meets, group=SPAN_420, offsets=(59, 6), some=(0, 1))
        self.returns(3 * 7, meets, group=SPAN_420, offsets=(59, 6), some=(0,))
        self.too_long(423, meets, group=SPAN_423, offsets=(0, 0), some=(0,))
        self.too_long(59 * 58 * 57 * 55, meets, group=HUGE, offsets=(0, 0, 0, 0), some=(0, 3))
        self.returns(1, meets, group=CLASSES_3600, offsets=(0, 0, 0, 0), some=(0, 1, 2, 3))

    def test_no_some(self):
        wrong = [
            None, True, False, 0, 1, "", "0", [], [0], [0, 1], (), {}, {0: 1}, (-1,), (-1, 0), (2,), (0, 2), (0, 1, 2), (0, 0),
            (1, 0), (1, 1), (True,), (False,), (0, True), (False, 1), (None,), (0, None), ("0",), ((0,),), ([0],), (0, 1, 1),
            (0, 0, 1), tuple(range(4000)), (10 ** 12,), GROUP, NoSome(),
        ]
        for group in (GROUP, SPAN_423):
            for thing in wrong:
                self.fails(NoSome, meets, group=group, offsets=(0, 0), some=thing)
        self.fails(NoSome, meets, group=FOUR, offsets=(0, 0, 0, 0), some=(0, 4))
        self.fails(NoSome, meets, group=FOUR, offsets=(0, 0, 0, 0), some=(0, 2, 1))


class TestFewestAndGreatest(Calls, unittest.TestCase):
    def test_examples(self):
        self.returns((0, (0, 0)), fewest, group=OTHER, kind=0)
        self.returns((6, (0, 1)), greatest, group=OTHER, kind=0)
        self.returns((0, (0, 1)), fewest, group=OTHER, kind=-1)
        self.returns((6, (0, 0)), greatest, group=OTHER, kind=-2)
        self.returns((4, (0, 0)), fewest, group=GROUP, kind=-1)
        self.returns((4, (0, 0)), greatest, group=GROUP, kind=-1)
        self.returns((0, (0, 0, 0)), fewest, group=SAME, kind=2)
        self.returns((1, (0, 0, 1)), greatest, group=SAME, kind=2)
        self.returns((1, (0, 1, 1)), greatest, group=SAME, kind=0)

    def test_of_all_offsets(self):
        for group in SMALL_GROUPS[:-2]:
            rows = [(plain_counts(group, offsets), offsets) for offsets in all_offsets(group)]
            for at, kind in enumerate(kinds(group)):
                few = min(row[at] for row, _ in rows)
                many = max(row[at] for row, _ in rows)
                first = min(offsets for row, offsets in rows if row[at] == few)
                self.returns((few, first), fewest, group=group, kind=kind)
                first = min(offsets for row, offsets in rows if row[at] == many)
                self.returns((many, first), greatest, group=group, kind=kind)
                self.assertIn(first, classes(group))

    def test_limits(self):
        alone = plain_counts(SPAN_420, (0, 0))
        for at, kind in enumerate(kinds(SPAN_420)):
            self.returns((alone[at], (0, 0)), fewest, group=SPAN_420, kind=kind)
            self.returns((alone[at], (0, 0)), greatest, group=SPAN_420, kind=kind)
        self.returns((0, (0, 0, 1)), fewest, group=CLASSES_240, kind=1)
        self.returns((1, (0, 0, 0)), greatest, group=CLASSES_240, kind=1)
        for function in (fewest, greatest):
            self.too_long(423, function, group=SPAN_423, kind=0)
            self.too_many(242, function, group=CLASSES_242, kind=0)
            self.too_many(3600, function, group=CLASSES_3600, kind=3)
            self.too_long(660, function, group=LARGE, kind=-2)
            self.too_long(59 * 58 * 57 * 55, function, group=HUGE, kind=-1)

    def test_wrong(self):
        for function in (fewest, greatest, average):
            for thing in no_groups():
                self.fails(NoGroup, function, group=thing, kind=0)
                self.fails(NoGroup, function, group=thing, kind=None)
            for group in (GROUP, FOUR, SPAN_423, CLASSES_242, LARGE, HUGE):
                for thing in no_kinds(group):
                    self.fails(NoKind, function, group=group, kind=thing)


class TestAverage(Calls, unittest.TestCase):
    def test_examples(self):
        self.returns((4, 1), average, group=GROUP, kind=-1)
        self.returns((4, 1), average, group=GROUP, kind=0)
        self.returns((2, 1), average, group=GROUP, kind=1)
        self.returns((2, 1), average, group=GROUP, kind=-2)
        self.returns((3, 1), average, group=OTHER, kind=-1)
        self.returns((1, 4), average, group=SAME, kind=-1)
        self.returns((1, 4), average, group=SAME, kind=2)
        self.returns((1, 1), average, group=SAME, kind=-2)

    def test_mean_of_all_offsets(self):
        for group in SMALL_GROUPS[:-2]:
            rows = [plain_counts(group, offsets) for offsets in all_offsets(group)]
            for at, kind in enumerate(kinds(group)):
                mean = Fraction(sum(row[at] for row in rows), len(rows))
                self.returns((mean.numerator, mean.denominator), average, group=group, kind=kind)

    def test_above_the_limits(self):
        for group in (SPAN_420, SPAN_423, CLASSES_240, CLASSES_242, CLASSES_3600, LARGE, HUGE, HUGE_SHARED):
            ticks = lcm(*[period for period, _ in group])
            shares = [Fraction(len(slots), period) for period, slots in group]
            rest = Fraction(ticks)
            for kind in range(-1, len(group)):
                mean = Fraction(ticks)
                for who, part in enumerate(shares):
                    mean *= part if who == kind else 1 - part
                rest -= mean
                self.returns((mean.numerator, mean.denominator), average, group=group, kind=kind)
            self.returns((rest.numerator, rest.denominator), average, group=group, kind=-2)


class TestShowsFewest(Calls, unittest.TestCase):
    def test_all_offsets_and_numbers(self):
        for group in (GROUP, OTHER, SAME, SMALL_GROUPS[7]):
            rows = [(plain_counts(group, offsets), offsets) for offsets in all_offsets(group)]
            for at, kind in enumerate(kinds(group)):
                few = min(row[at] for row, _ in rows)
                for row, offsets in rows:
                    for many in (few - 1, few, few + 1, row[at]):
                        right = many == few and row[at] == few
                        self.assertIs(shows_fewest(group, kind, (many, offsets)), right)

    def test_not_only_the_smallest(self):
        self.returns(True, shows_fewest, group=OTHER, kind=0, thing=(0, (0, 0)))
        self.returns(True, shows_fewest, group=OTHER, kind=0, thing=(0, (3, 5)))
        self.returns(True, shows_fewest, group=OTHER, kind=0, thing=(0, (2, 4)))
        self.returns(False, shows_fewest, group=OTHER, kind=0, thing=(0, (0, 1)))
        self.returns(False, shows_fewest, group=OTHER, kind=0, thing=(6, (0, 1)))
        self.returns(True, shows_fewest, group=OTHER, kind=-1, thing=(0, (0, 5)))

    def test_any_value(self):
        wrong = no_integers() + no_groups() + [
            0, 1, (0,), ((0, 0),), (0, 0, 0), (0, (0, 0), 0), ((0, 0), 0), [0, (0, 0)], (0, [0, 0]), (False, (0, 0)),
            (0, (False, 0)), (0, (0, False)), (0, (False, False)), (None, (0, 0)), ("0", (0, 0)), ((0,), (0, 0)), ([0], (0, 0)),
            (0, (0,)), (0, (0, 0, 0)), (0, (4, 0)), (0, (0, 6)), (0, (-1, 0)), (0, (0, -1)), (0, None), (0, 0), (0, "0 0"),
            (0, ((0, 0),)), (0, {0: 0, 1: 0}), {0: 0, 1: (0, 0)}, (NoKind(), (0, 0)), (0, NoKind()), (0, (0, 0))[::-1],
        ]
        for thing in wrong:
            if repr(thing) != repr((0, (0, 0))):
                self.returns(False, shows_fewest, group=OTHER, kind=0, thing=thing)
        for thing in ((True, (0, 0)), (1, (False, 0)), (1, (True, 1)), (1, [0, 0]), [1, (0, 0)]):
            self.returns(False, shows_fewest, group=((2, (0,)), (3, (0,))), kind=1, thing=thing)
        self.returns(True, shows_fewest, group=((2, (0,)), (3, (0,))), kind=1, thing=(1, (0, 0)))
        self.returns(True, shows_fewest, group=((2, (0,)), (3, (0,))), kind=1, thing=(1, (1, 2)))

    def test_its_own_results(self):
        for group in SMALL_GROUPS:
            for kind in kinds(group):
                found = fewest(group, kind)
                self.assertIs(shows_fewest(group, kind, found), True)
                for changed in (found[:1], found[1:], found[::-1], found * 2, (found[0] + 1, found[1]), list(found)):
                    self.assertIs(shows_fewest(group, kind, changed), False)

    def test_limits(self):
        self.returns(True, shows_fewest, group=CLASSES_240, kind=1, thing=(0, (59, 59, 0)))
        self.returns(False, shows_fewest, group=CLASSES_240, kind=1, thing=(1, (0, 0, 0)))
        for thing in (None, (0, (0, 0)), [0], (0, (0, 0, 0))):
            self.too_long(423, shows_fewest, group=SPAN_423, kind=0, thing=thing)
            self.too_many(242, shows_fewest, group=CLASSES_242, kind=0, thing=thing)
            self.too_long(660, shows_fewest, group=LARGE, kind=0, thing=thing)

    def test_wrong(self):
        for thing in no_groups():
            self.fails(NoGroup, shows_fewest, group=thing, kind=0, thing=(0, (0, 0)))
            self.fails(NoGroup, shows_fewest, group=thing, kind=None, thing=None)
        for group in (GROUP, FOUR, SPAN_423, CLASSES_242, LARGE):
            for thing in no_kinds(group):
                self.fails(NoKind, shows_fewest, group=group, kind=thing, thing=(0, (0, 0)))


if __name__ == "__main__":
    unittest.main()
