"""Points [20] and [21], with points [2] and [3] for these functions."""

import unittest

from anyshift.errors import NoGroup, NoOffsets
from anyshift.groups import classes, earliest, is_group, is_offsets, span, ticks_later
from samples import (CLASSES_240, CLASSES_242, CLASSES_3600, HUGE, HUGE_SHARED, LARGE, PATTERNS, SMALL_GROUPS,
                     SPAN_420, SPAN_423, Calls, all_offsets, later, no_groups, no_offsets, plain_earliest, plain_span)

LIMITS = (SPAN_420, SPAN_423, CLASSES_240, CLASSES_242, CLASSES_3600, LARGE, HUGE, HUGE_SHARED)
GROUP = ((4, (0, 1)), (6, (0, 2)))


class TestIsGroup(Calls, unittest.TestCase):
    def test_groups(self):
        for group in (*SMALL_GROUPS, *LIMITS):
            self.returns(True, is_group, thing=group)

    def test_how_many(self):
        for pattern in PATTERNS:
            for many in range(7):
                self.returns(2 <= many <= 4, is_group, thing=(pattern,) * many)

    def test_wrong(self):
        for thing in no_groups():
            self.returns(False, is_group, thing=thing)


class TestSpan(Calls, unittest.TestCase):
    def test_spans(self):
        self.returns(12, span, group=GROUP)
        self.returns(2, span, group=((2, (0,)), (2, (1,))))
        self.returns(60, span, group=((60, (0,)), (60, (1,)), (4, (0,)), (2, (0,))))
        self.returns(420, span, group=SPAN_420)
        self.returns(423, span, group=SPAN_423)
        for group in SMALL_GROUPS:
            self.returns(plain_span(group), span, group=group)

    def test_many_millions(self):
        self.returns(59 * 58 * 57 * 55, span, group=HUGE)
        self.returns(840 * 19 * 53, span, group=HUGE_SHARED)

    def test_wrong(self):
        for thing in no_groups():
            self.fails(NoGroup, span, group=thing)


class TestIsOffsets(Calls, unittest.TestCase):
    def test_offsets(self):
        for offsets in all_offsets(GROUP):
            self.returns(True, is_offsets, group=GROUP, thing=offsets)
        self.returns(True, is_offsets, group=HUGE, thing=(58, 57, 56, 54))
        self.returns(True, is_offsets, group=SMALL_GROUPS[1], thing=(1, 0, 1))

    def test_edges(self):
        for group in (*SMALL_GROUPS, *LIMITS):
            zeros = (0,) * len(group)
            for who, (period, _) in enumerate(group):
                for offset in (-period, -1, 0, 1, period - 1, period, period + 1, 10 ** 12):
                    offsets = zeros[:who] + (offset,) + zeros[who + 1:]
                    self.returns(0 <= offset < period, is_offsets, group=group, thing=offsets)

    def test_wrong(self):
        for group in (GROUP, SMALL_GROUPS[1], HUGE):
            for thing in no_offsets(group):
                self.returns(False, is_offsets, group=group, thing=thing)
        for thing in no_groups():
            self.fails(NoGroup, is_offsets, group=thing, thing=(0, 0))
            self.fails(NoGroup, is_offsets, group=thing, thing=None)


class TestTicksLater(Calls, unittest.TestCase):
    def test_examples(self):
        self.returns(0, ticks_later, group=GROUP, offsets=(0, 0), others=(0, 0))
        self.returns(1, ticks_later, group=GROUP, offsets=(0, 0), others=(1, 1))
        self.returns(11, ticks_later, group=GROUP, offsets=(0, 0), others=(3, 5))
        self.returns(6, ticks_later, group=GROUP, offsets=(0, 0), others=(2, 0))
        self.returns(6, ticks_later, group=GROUP, offsets=(2, 0), others=(0, 0))
        self.returns(None, ticks_later, group=GROUP, offsets=(0, 0), others=(0, 1))
        self.returns(None, ticks_later, group=GROUP, offsets=(3, 4), others=(3, 5))

    def test_all_offsets(self):
        for group in SMALL_GROUPS:
            choices = all_offsets(group)
            for offsets in choices[::max(1, len(choices) // 5)]:
                least = {}
                for tick in range(plain_span(group)):
                    least.setdefault(later(group, offsets, tick), tick)
                for others in choices:
                    self.assertEqual(repr(ticks_later(group, offsets, others)), repr(least.get(others)))

    def test_many_millions(self):
        for group in (HUGE, HUGE_SHARED, LARGE, SPAN_423, CLASSES_3600):
            offsets = tuple(period - 1 - who for who, (period, _) in enumerate(group))
            for ticks in (0, 1, 59, 10 ** 5 + 7, 10 ** 6 + 3, 10 ** 12, span(group) - 1):
                wanted = ticks % span(group)
                self.returns(wanted, ticks_later, group=group, offsets=offsets, others=later(group, offsets, ticks))
        self.returns(None, ticks_later, group=HUGE_SHARED, offsets=(0, 0, 0, 0), others=(0, 2, 0, 0))
        self.returns(None, ticks_later, group=HUGE_SHARED, offsets=(0, 0, 0, 0), others=(1, 5, 0, 0))
        self.returns(None, ticks_later, group=HUGE_SHARED, offsets=(0, 0, 0, 0), others=(0, 4, 1, 0))

    def test_wrong(self):
        for thing in no_groups():
            self.fails(NoGroup, ticks_later, group=thing, offsets=(0, 0), others=(0, 0))
            self.fails(NoGroup, ticks_later, group=thing, offsets=None, others=(0,))
        for group in (GROUP, SMALL_GROUPS[1], HUGE):
            zeros = (0,) * len(group)
            for thing in no_offsets(group):
                self.fails(NoOffsets, ticks_later, group=group, offsets=thing, others=zeros)
                self.fails(NoOffsets, ticks_later, group=group, offsets=zeros, others=thing)
                self.fails(NoOffsets, ticks_later, group=group, offsets=thing, others=thing)
        self.fails(NoOffsets, ticks_later, group=GROUP, offsets=(0, 1), others=(0, 6))


class TestEarliest(Calls, unittest.TestCase):
    def test_examples(self):
        self.returns((0, 0), earliest, group=GROUP, offsets=(0, 0))
        self.returns((0, 1), earliest, group=GROUP, offsets=(0, 1))
        self.returns((0, 1), earliest, group=GROUP, offsets=(3, 4))
        self.returns((0, 0), earliest, group=GROUP, offsets=(3, 5))
        self.returns((0, 1, 1), earliest, group=SMALL_GROUPS[1], offsets=(1, 0, 0))

    def test_all_offsets(self):
        for group in SMALL_GROUPS:
            for offsets in all_offsets(group):
                self.assertEqual(repr(earliest(group, offsets)), repr(plain_earliest(group, offsets)))

    def test_many_millions(self):
        self.returns((0, 0, 0, 0), earliest, group=HUGE, offsets=(58, 57, 56, 54))
        self.returns((0, 3, 0, 0), earliest, group=HUGE_SHARED, offsets=(0, 55, 0, 7))
        self.returns((0, 3, 2, 0), earliest, group=HUGE_SHARED, offsets=(59, 2, 55, 52))
        self.returns((0, 1, 59, 0), earliest, group=LARGE, offsets=(59, 0, 58, 10))
        for group in (HUGE, HUGE_SHARED, LARGE, SPAN_423, CLASSES_242):
            offsets = tuple(period - 1 - who for who, (period, _) in enumerate(group))
            first = earliest(group, offsets)
            for ticks in (1, 60, 10 ** 6 + 3, 10 ** 12):
                self.returns(first, earliest, group=group, offsets=later(group, offsets, ticks))
            self.assertIsNotNone(ticks_later(group, offsets, first))

    def test_wrong(self):
        for thing in no_groups():
            self.fails(NoGroup, earliest, group=thing, offsets=(0, 0))
            self.fails(NoGroup, earliest, group=thing, offsets=None)
        for group in (GROUP, SMALL_GROUPS[1], HUGE):
            for thing in no_offsets(group):
                self.fails(NoOffsets, earliest, group=group, offsets=thing)


class TestSameButForTime(unittest.TestCase):
    def test_differences(self):
        """They are the same exactly if the differences of each two differ by a multiple of the common factor."""
        group = ((4, (0,)), (6, (0, 2, 3)), (10, (1,)))
        offsets = (3, 4, 7)
        for others in all_offsets(group):
            moves = [other - offset for offset, other in zip(offsets, others)]
            same = all((moves[one] - moves[two]) % 2 == 0 for one in range(3) for two in range(one))
            self.assertEqual(ticks_later(group, offsets, others) is not None, same)
            self.assertEqual(earliest(group, offsets) == earliest(group, others), same)


class TestClasses(Calls, unittest.TestCase):
    def test_examples(self):
        self.returns(((0, 0), (0, 1)), classes, group=GROUP)
        self.returns(((0, 0),), classes, group=((3, (0,)), (5, (1, 2))))
        self.returns(((0, 0), (0, 1)), classes, group=((2, (0,)), (2, (0,))))
        self.returns(((0, 0, 0), (0, 0, 1), (0, 1, 0), (0, 1, 1)), classes, group=SMALL_GROUPS[1])

    def test_the_earliest_of_all_offsets(self):
        for group in SMALL_GROUPS:
            wanted = tuple(sorted({plain_earliest(group, offsets) for offsets in all_offsets(group)}))
            self.returns(wanted, classes, group=group)
            product = 1
            for period, _ in group:
                product *= period
            self.assertEqual(len(wanted) * span(group), product)
            self.assertEqual(set(wanted[0]), {0})

    def test_limits(self):
        self.returns(((0, 0),), classes, group=SPAN_420)
        self.too_long(423, classes, group=SPAN_423)
        wanted = tuple((0, second, third) for second in range(60) for third in range(4))
        self.returns(wanted, classes, group=CLASSES_240)
        self.too_many(242, classes, group=CLASSES_242)
        self.too_many(3600, classes, group=CLASSES_3600)
        self.too_many(60 ** 3, classes, group=((60, (0,)),) * 4)
        self.too_long(660, classes, group=LARGE)
        self.too_long(59 * 58 * 57 * 55, classes, group=HUGE)
        self.too_long(840 * 19 * 53, classes, group=HUGE_SHARED)

    def test_wrong(self):
        for thing in no_groups():
            self.fails(NoGroup, classes, group=thing)


if __name__ == "__main__":
    unittest.main()
