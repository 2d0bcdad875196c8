"""Points [80] and [81], with points [2] and [3] for these functions."""

import unittest
from itertools import combinations, product

from anyshift.codes import code_size, distances, meet_once, smallest_code
from anyshift.counts import meets
from anyshift.errors import NoMany, NoPattern, NoPeriod, NoSlots, OtherPeriods
from anyshift.pairs import pair_meets
from anyshift.patterns import turned
from anyshift.shuts import is_safe
from samples import PATTERNS, Calls, no_integers, no_patterns

# All periods and numbers of slots for which there are codes.
SIZES = tuple((period, slots) for period in range(2, 14) for slots in (2, 3))


def plain_distances(pattern):
    """The differences, by going from each slot to each other one, tick by tick."""
    period, slots = pattern
    return tuple(by for by in range(1, period) if any((slot + by) % period in slots for slot in slots))


def most_together(one, other):
    """The greatest number of ticks of a period in which both send, for all offsets, by going through the ticks."""
    period = one[0]
    return max(sum(1 for tick in range(period) if tick in one[1] and (tick - offset) % period in other[1])
               for offset in range(period))


def all_patterns(period, slots):
    """All patterns with the period and so many slots, one of which is 0, ascending."""
    return [(period, (0, *rest)) for rest in combinations(range(1, period), slots - 1) if slots < period]


def is_code(rows, period, slots):
    """Whether these are a code of patterns with the period and so many slots."""
    if list(rows) != sorted(rows) or not rows or any(row not in all_patterns(period, slots) for row in rows):
        return False
    return all(most_together(one, other) <= 1 for one, other in combinations(rows, 2))


def plain_codes(period, slots):
    """For each number of patterns from 1 to 7 the smallest code, None if there is none, by going through all codes."""
    rows = all_patterns(period, slots)
    apart = {(one, other) for one, other in combinations(rows, 2) if most_together(one, other) <= 1}
    found, codes = [], [(row,) for row in rows]
    for _ in range(7):
        found.append(min(codes, default=None))
        codes = [(*code, row) for code in codes for row in rows if all((one, row) in apart for one in code)]
    return found


class TestDistances(Calls, unittest.TestCase):
    def test_examples(self):
        self.returns((1, 3), distances, pattern=(4, (0, 1)))
        self.returns((2,), distances, pattern=(4, (0, 2)))
        self.returns((2, 4), distances, pattern=(6, (0, 2)))
        self.returns((2, 4), distances, pattern=(6, (0, 2, 4)))
        self.returns((1, 2, 3, 4, 5, 6), distances, pattern=(7, (0, 1, 3)))
        self.returns((1, 3, 4, 6), distances, pattern=(7, (2, 3, 6)))

    def test_edges(self):
        self.returns((), distances, pattern=(2, (0,)))
        self.returns((), distances, pattern=(60, (59,)))
        self.returns((1, 2), distances, pattern=(3, (0, 2)))
        self.returns((30,), distances, pattern=(60, (29, 59)))
        self.returns((1, 59), distances, pattern=(60, (0, 59)))
        self.returns(tuple(range(1, 60)), distances, pattern=(60, tuple(range(59))))
        self.returns(tuple(range(5, 60, 5)), distances, pattern=(60, tuple(range(0, 60, 5))))

    def test_by_going_from_slot_to_slot(self):
        for pattern in PATTERNS:
            self.returns(plain_distances(pattern), distances, pattern=pattern)
            self.assertEqual(distances(turned(pattern, 5)), distances(pattern))
        for period in range(2, 9):
            for many in range(1, period):
                for slots in combinations(range(period), many):
                    self.returns(plain_distances((period, slots)), distances, pattern=(period, slots))

    def test_wrong(self):
        for thing in no_patterns():
            self.fails(NoPattern, distances, pattern=thing)


class TestMeetOnce(Calls, unittest.TestCase):
    def test_examples(self):
        self.returns(True, meet_once, one=(4, (0, 1)), other=(4, (0, 2)))
        self.returns(False, meet_once, one=(4, (0, 1)), other=(4, (0, 1)))
        self.returns(False, meet_once, one=(4, (0, 1)), other=(4, (0, 3)))
        self.returns(True, meet_once, one=(7, (0, 1)), other=(7, (0, 2)))
        self.returns(False, meet_once, one=(7, (0, 1, 3)), other=(7, (0, 2)))
        self.returns(True, meet_once, one=(9, (0, 1, 2)), other=(9, (0, 3, 6)))

    def test_edges(self):
        self.returns(True, meet_once, one=(2, (0,)), other=(2, (0,)))
        self.returns(True, meet_once, one=(60, (59,)), other=(60, (59,)))
        self.returns(True, meet_once, one=(60, (59,)), other=(60, tuple(range(59))))
        self.returns(True, meet_once, one=(60, tuple(range(0, 60, 5))), other=(60, (0, 1, 2)))
        self.returns(False, meet_once, one=(60, tuple(range(0, 60, 5))), other=(60, (0, 1, 6)))
        self.returns(False, meet_once, one=(60, (0, 1)), other=(60, (0, 59)))

    def test_for_all_offsets(self):
        seen = set()
        for period in (2, 3, 4, 6, 7):
            rows = [(period, slots) for many in range(1, period) for slots in combinations(range(period), many)]
            for one, other in product(rows[::2], rows[::3]):
                wanted = most_together(one, other) <= 1
                self.returns(wanted, meet_once, one=one, other=other)
                self.assertEqual(max(pair_meets(one, other)) <= 1, wanted)
                seen.add((period, wanted))
        self.assertEqual(len(seen), 9)

    def test_as_meets_tells(self):
        for one, other in product([row for row in PATTERNS if row[0] in (4, 6)], repeat=2):
            if one[0] == other[0]:
                most = max(meets((one, other), (0, offset), (0, 1)) for offset in range(one[0]))
                self.returns(most <= 1, meet_once, one=one, other=other)

    def test_other_periods(self):
        for one, other in (((4, (0, 1)), (6, (0, 2))), ((2, (0,)), (60, (0,))), ((4, (0, 2)), (2, (0,)))):
            self.fails(OtherPeriods, meet_once, one=one, other=other)
            self.fails(OtherPeriods, meet_once, one=other, other=one)

    def test_wrong(self):
        for thing in no_patterns():
            self.fails(NoPattern, meet_once, one=thing, other=(4, (0, 1)))
            self.fails(NoPattern, meet_once, one=(4, (0, 1)), other=thing)
            self.fails(NoPattern, meet_once, one=thing, other=(6, (0, 2)))
            self.fails(NoPattern, meet_once, one=(60, (0,)), other=thing)
            self.fails(NoPattern, meet_once, one=thing, other=thing)


class TestCodes(Calls, unittest.TestCase):
    def test_examples(self):
        self.returns(((7, (0, 1)), (7, (0, 2))), smallest_code, period=7, slots=2, many=2)
        self.returns(((7, (0, 1)), (7, (0, 2)), (7, (0, 3))), smallest_code, period=7, slots=2, many=3)
        self.returns(None, smallest_code, period=7, slots=2, many=4)
        self.returns(((7, (0, 1, 2)),), smallest_code, period=7, slots=3, many=1)
        self.returns(None, smallest_code, period=7, slots=3, many=2)
        self.returns(((12, (0, 1, 2)), (12, (0, 3, 6)), (12, (0, 4, 8))), smallest_code, period=12, slots=3, many=3)
        self.returns(3, code_size, period=7, slots=2)
        self.returns(1, code_size, period=7, slots=3)
        self.returns(3, code_size, period=13, slots=3)

    def test_of_all_codes(self):
        seen = set()
        for period, slots in SIZES:
            wanted = plain_codes(period, slots)
            for many in (1, 2, 3, 4):
                self.returns(wanted[many - 1], smallest_code, period=period, slots=slots, many=many)
                seen.add((slots, many, wanted[many - 1] is None))
            self.returns(len([code for code in wanted if code is not None]), code_size, period=period, slots=slots)
            self.assertIsNone(wanted[-1])
        self.assertEqual(len(seen), 15)

    def test_what_is_returned_is_a_code(self):
        for period, slots in SIZES:
            for many in (1, 2, 3, 4):
                code = smallest_code(period, slots, many)
                self.assertEqual(code is not None, many <= code_size(period, slots))
                if code is not None:
                    self.assertEqual(len(code), many)
                    self.assertTrue(is_code(code, period, slots))

    def test_two_slots(self):
        for period in range(3, 14):
            self.returns(period // 2, code_size, period=period, slots=2)

    def test_as_many_slots_as_the_period(self):
        for period, slots in ((2, 2), (3, 3), (2, 3)):
            self.returns(0, code_size, period=period, slots=slots)
            for many in (1, 2, 3, 4):
                self.returns(None, smallest_code, period=period, slots=slots, many=many)
        self.returns(((3, (0, 1)),), smallest_code, period=3, slots=2, many=1)
        self.returns(((4, (0, 1, 2)),), smallest_code, period=4, slots=3, many=1)

    def test_safe_groups(self):
        seen = set()
        for period, slots in SIZES:
            for many in range(2, slots + 1):
                code = smallest_code(period, slots, many)
                # Above these periods there are more classes than are gone through.
                if code is not None and period ** (many - 1) <= 240:
                    self.assertTrue(is_safe(code), code)
                    seen.add((slots, many))
        self.assertEqual(seen, {(2, 2), (3, 2), (3, 3)})
        self.assertTrue(is_safe(((12, (0, 1, 2)), (12, (0, 4, 8)))))

    def test_no_period(self):
        for thing in no_integers() + [1, 14, 0, -2, -13, 60, 10 ** 13 - 1]:
            self.fails(NoPeriod, smallest_code, period=thing, slots=2, many=1)
            self.fails(NoPeriod, smallest_code, period=thing, slots=4, many=None)
            self.fails(NoPeriod, code_size, period=thing, slots=3)
            self.fails(NoPeriod, code_size, period=thing, slots=None)

    def test_no_slots(self):
        for thing in no_integers() + [1, 4, 0, -2, -3, 13, 10 ** 13 - 1]:
            for period in (2, 13):
                self.fails(NoSlots, smallest_code, period=period, slots=thing, many=1)
                self.fails(NoSlots, smallest_code, period=period, slots=thing, many=0)
                self.fails(NoSlots, code_size, period=period, slots=thing)

    def test_no_many(self):
        for thing in no_integers() + [0, 5, -1, -4, 6, 10 ** 13 - 1]:
            for period, slots in ((2, 2), (13, 3), (13, 2)):
                self.fails(NoMany, smallest_code, period=period, slots=slots, many=thing)


if __name__ == "__main__":
    unittest.main()
