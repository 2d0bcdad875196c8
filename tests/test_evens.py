"""Points [50] and [51], with points [2], [3] and [20] for these functions."""

import unittest
from fractions import Fraction
from itertools import combinations_with_replacement, permutations, product
from math import gcd, prod

from anyshift.counts import average, counts
from anyshift.errors import NoGroup, NoShares
from anyshift.evens import even_with, is_even, uneven
from anyshift.groups import classes, is_group
from anyshift.patterns import share
from samples import (CLASSES_240, CLASSES_242, CLASSES_3600, HUGE, LARGE, SMALL_GROUPS, SPAN_420, SPAN_420_CLASSES_240,
                     SPAN_423, Calls, all_offsets, kinds, no_groups, no_integers, plain_counts, plain_even)

GROUP = ((4, (0, 1)), (6, (0, 2)))
OTHER = ((4, (0, 2)), (6, (0, 2, 4)))
SAME = ((2, (0,)), (2, (0,)), (2, (0,)))
LATE = ((4, (0,)), (4, (0, 1)), (4, (2,)))
EVEN = ((2, (0,)), (6, (0, 1, 2, 3)), (12, (0, 1, 2, 3, 4, 5)))


def all_bottoms():
    """All tuples of two to four bottoms from 2 on whose product is at most 60."""
    found = set()
    for many in (2, 3, 4):
        for bottoms in combinations_with_replacement(range(2, 31), many):
            if prod(bottoms) <= 60:
                found.update(permutations(bottoms))
    return sorted(found)


def no_shares():
    """Values of all kinds but shares that a group is made for, made anew."""
    half = (1, 2)
    wrong = [
        0, half, (half,), (half,) * 5, [half, half], [[1, 2], [1, 2]], {0: half, 1: half}, (half, None),
        (half, half, True), ((half, half), (half, half)), SMALL_GROUPS[2], (Fraction(1, 2), Fraction(1, 2)), (1, 2, 3),
        (half, (0, 1)), (half, (1, 1)), (half, (0, 2)), (half, (2, 2)), (half, (2, 4)), ((2, 4), half), (half, (3, 9)),
        (half, (10, 15)), (half, (3, 2)), (half, (-1, 2)), (half, (1, -2)), (half, (-1, -2)), (half, (1, 0)),
        (half, (0, 0)), (half, (True, 2)), ((True, 2), half), (half, (1, True)), (half, (False, 2)), (half, (1, "2")),
        (half, (None, 2)), (half, (1,)), (half, (1, 2, 3)), (half, [1, 2]), (half, "12"), (half, ((1,), 2)),
        (half, 1, 2), (half, half, half, (5, 4)), (half, (1, 10 ** 12)), (half, NoShares()), ((1, 10 ** 13 - 1),) * 4,
        (half, (1, 31)), ((1, 31), half), ((1, 7), (8, 9)), ((1, 61), (1, 2)), ((3, 4), (1, 4), (3, 4)),
        (half, half, (1, 4), (3, 4)), ((1, 3), (1, 3), (6, 7)), ((1, 8), (7, 8)),
    ]
    return no_integers() + wrong


class TestEven(Calls, unittest.TestCase):
    def test_examples(self):
        for group in (GROUP, EVEN, ((3, (0,)), (5, (1, 2))), ((2, (0,)), (4, (0, 1)))):
            self.returns(True, is_even, group=group)
            self.returns(None, uneven, group=group)
        for group in (OTHER, SAME, SAME[:2], LATE):
            self.returns(False, is_even, group=group)
        self.returns(((0, 0), (0, 1)), uneven, group=OTHER)
        self.returns(((0, 0), (0, 1)), uneven, group=SAME[:2])
        self.returns(((0, 0, 0), (0, 0, 1)), uneven, group=SAME)
        self.returns(((0, 0, 0, 0), (0, 0, 0, 1)), uneven, group=SAME + SAME[:1])

    def test_not_only_the_second_of_the_classes(self):
        self.returns(((0, 0, 0), (0, 0, 1)), uneven, group=((4, (0,)), (4, (0, 1)), (4, (0, 1))))
        self.returns(((0, 0, 0), (0, 0, 2)), uneven, group=LATE)
        self.assertEqual([counts(LATE, (0, 0, third))[0] for third in range(4)], [1, 1, 2, 2])
        self.returns(((0, 0, 0), (0, 1, 0)), uneven, group=((2, (0,)), (2, (0,)), (5, (1, 2))))

    def test_of_all_offsets(self):
        seen = []
        for group in (*SMALL_GROUPS[:-2], GROUP[::-1], EVEN, LATE):
            rows = {offsets: plain_counts(group, offsets) for offsets in all_offsets(group)}
            even = len(set(rows.values())) == 1
            self.returns(even, is_even, group=group)
            # So exactly if the number of quiet ticks is the same.
            self.assertEqual(len({row[0] for row in rows.values()}) == 1, even)
            self.assertEqual(plain_even(group), even)
            first, *others = classes(group)
            less_quiet = [offsets for offsets in others if rows[offsets][0] != rows[first][0]]
            self.returns(None if even else (first, less_quiet[0]), uneven, group=group)
            seen.append(even)
        self.assertEqual(set(seen), {True, False})

    def test_even_counts_are_the_averages(self):
        for group in (GROUP, EVEN, ((3, (0,)), (5, (1, 2)))):
            wanted = tuple(average(group, kind) for kind in kinds(group))
            for offsets in classes(group):
                self.assertEqual(tuple((many, 1) for many in counts(group, offsets)), wanted)

    def test_no_common_factor(self):
        four = ((2, (0,)), (3, (0, 2)), (5, (1,)), (7, (0, 3, 4)))
        for group in (four, SPAN_420, ((4, (1, 2)), (9, (0,)), (11, (3, 4)))):
            self.returns(True, is_even, group=group)
            self.returns(None, uneven, group=group)

    def test_without_one_pattern(self):
        four = ((2, (0,)), (4, (0, 1)), (8, (0, 1, 2, 3)), (16, tuple(range(8))))
        for group in (EVEN, four, SPAN_420_CLASSES_240, ((2, (0,)), (3, (0, 2)), (5, (1,)), (7, (0, 3, 4)))):
            self.returns(True, is_even, group=group)
            for who in range(len(group)):
                self.returns(True, is_even, group=group[:who] + group[who + 1:])

    def test_limits(self):
        self.returns(True, is_even, group=SPAN_420)
        self.returns(True, is_even, group=SPAN_420_CLASSES_240)
        for group in (CLASSES_240, SPAN_420_CLASSES_240, SPAN_420_CLASSES_240[:2] + ((28, (0, 7)),)):
            self.returns(plain_even(group), is_even, group=group)
            self.assertEqual(uneven(group) is None, plain_even(group))
        self.returns(((0, 0, 0), (0, 0, 1)), uneven, group=CLASSES_240)
        for function in (is_even, uneven):
            self.too_long(423, function, group=SPAN_423)
            self.too_many(242, function, group=CLASSES_242)
            self.too_many(3600, function, group=CLASSES_3600)
            self.too_long(660, function, group=LARGE)
            self.too_long(59 * 58 * 57 * 55, function, group=HUGE)

    def test_wrong(self):
        for thing in no_groups():
            self.fails(NoGroup, is_even, group=thing)
            self.fails(NoGroup, uneven, group=thing)


class TestEvenWith(Calls, unittest.TestCase):
    def check(self, shares):
        """It returns an even group with these shares, by position, by name and once more, and changes no argument."""
        before = repr(shares)
        group = even_with(shares)
        self.assertTrue(is_group(group), shares)
        self.assertEqual(repr(tuple(share(pattern) for pattern in group)), before)
        self.assertTrue(plain_even(group), shares)
        self.assertEqual(repr(even_with(shares=shares)), repr(group))
        self.assertEqual(repr(shares), before)

    def test_examples(self):
        self.check(((1, 2), (1, 2)))
        self.check(((1, 2), (2, 3), (1, 4)))
        self.check(((1, 2), (1, 3), (1, 2), (4, 5)))
        self.assertTrue(is_even(even_with(((1, 2), (1, 3)))))

    def test_product_of_sixty(self):
        self.check(((29, 30), (1, 2)))
        self.check(((1, 2), (1, 30)))
        self.check(((1, 4), (14, 15)))
        self.check(((7, 10), (5, 6)))
        self.check(((2, 3), (1, 2), (7, 10)))
        self.check(((4, 5), (1, 2), (1, 3), (1, 2)))
        self.check(((1, 2), (1, 2), (1, 2), (6, 7)))

    def test_all_bottoms(self):
        for bottoms in all_bottoms():
            self.check(tuple((1, bottom) for bottom in bottoms))
            self.check(tuple((bottom - 1, bottom) for bottom in bottoms))

    def test_all_tops(self):
        for bottoms in ((5, 12), (12, 5), (7, 8), (4, 3, 5), (3, 5, 4), (2, 3, 2, 5), (5, 2, 3, 2)):
            tops = [[top for top in range(1, bottom) if gcd(top, bottom) == 1] for bottom in bottoms]
            for choice in product(*tops):
                self.check(tuple(zip(choice, bottoms)))

    def test_wrong(self):
        for thing in no_shares():
            self.fails(NoShares, even_with, shares=thing)

    def test_product_above_sixty(self):
        above = ((2, 31), (7, 9), (61, 2), (60, 60), (10 ** 12, 2), (2, 2, 16), (3, 3, 7), (2, 2, 2, 8), (2, 2, 4, 4))
        for bottoms in above:
            for order in permutations(bottoms):
                self.fails(NoShares, even_with, shares=tuple((1, bottom) for bottom in order))


if __name__ == "__main__":
    unittest.main()
