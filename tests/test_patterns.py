"""Points [10] and [11], with points [2] and [3] for these functions."""

import unittest
from fractions import Fraction

from anyshift.errors import NoNumber, NoOffset, NoPattern, NoTick
from anyshift.patterns import is_pattern, matching, sends, share, shortest, turned
from samples import PATTERNS, Calls, no_integers, no_patterns

FAR = (-10 ** 13 + 1, -10 ** 6, 10 ** 6 + 1, 10 ** 13 - 1)


def ticks_of(pattern, offset, many):
    """The ticks from 0 on, so many, in which a sender sends."""
    period, slots = pattern
    return [tick for tick in range(many) if (tick - offset) % period in slots]


class TestIsPattern(Calls, unittest.TestCase):
    def test_patterns(self):
        for pattern in PATTERNS:
            self.returns(True, is_pattern, thing=pattern)

    def test_all_periods(self):
        for period in range(-3, 70):
            right = 2 <= period <= 60
            self.returns(right, is_pattern, thing=(period, (0,)))
            self.returns(right, is_pattern, thing=(period, tuple(range(1, period))))
            self.returns(False, is_pattern, thing=(period, tuple(range(period))))
            self.returns(right, is_pattern, thing=(period, (period - 1,)))
            self.returns(False, is_pattern, thing=(period, (period,)))

    def test_wrong(self):
        for thing in no_patterns():
            self.returns(False, is_pattern, thing=thing)
        for number in (-5, 0, 1, 2, 60, 10 ** 13 - 1):
            self.returns(False, is_pattern, thing=number)


class TestSends(Calls, unittest.TestCase):
    def test_examples(self):
        line = [tick for tick in range(12) if sends((4, (0, 1)), 0, tick)]
        self.assertEqual(line, [0, 1, 4, 5, 8, 9])
        line = [tick for tick in range(12) if sends((6, (0, 2)), 0, tick)]
        self.assertEqual(line, [0, 2, 6, 8])
        line = [tick for tick in range(12) if sends((6, (0, 2)), 1, tick)]
        self.assertEqual(line, [1, 3, 7, 9])
        self.returns(True, sends, pattern=(6, (0, 2)), offset=5, tick=1)
        self.returns(False, sends, pattern=(6, (0, 2)), offset=5, tick=2)

    def test_all_offsets_and_ticks(self):
        for pattern in PATTERNS:
            period, slots = pattern
            for offset in sorted({0, 1, period // 2, period - 1}):
                for tick in [*range(-period - 2, 2 * period + 2), *FAR]:
                    wanted = any((tick - offset - slot) % period == 0 for slot in slots)
                    self.assertIs(sends(pattern, offset, tick), wanted)

    def test_far_away(self):
        for tick in (10 ** 12, -10 ** 12, 10 ** 13 - 4):
            self.returns(True, sends, pattern=(4, (0, 1)), offset=0, tick=tick)
            self.returns(True, sends, pattern=(4, (0, 1)), offset=3, tick=tick)
            self.returns(False, sends, pattern=(4, (0, 1)), offset=1, tick=tick)
        self.returns(True, sends, pattern=(60, (59,)), offset=59, tick=-2)
        self.returns(False, sends, pattern=(60, (59,)), offset=59, tick=-1)

    def test_wrong(self):
        for thing in no_patterns():
            self.fails(NoPattern, sends, pattern=thing, offset=0, tick=0)
            self.fails(NoPattern, sends, pattern=thing, offset=-1, tick=None)
        for thing in no_integers() + [-1, 4, 5, -4, 10 ** 12]:
            self.fails(NoOffset, sends, pattern=(4, (0, 1)), offset=thing, tick=0)
            self.fails(NoOffset, sends, pattern=(4, (0, 1)), offset=thing, tick=True)
        for thing in no_integers():
            self.fails(NoTick, sends, pattern=(4, (0, 1)), offset=3, tick=thing)
        self.fails(NoOffset, sends, pattern=(2, (0,)), offset=2, tick=0)
        self.fails(NoOffset, sends, pattern=(60, (0,)), offset=60, tick=0)


class TestShare(Calls, unittest.TestCase):
    def test_shares(self):
        self.returns((1, 2), share, pattern=(4, (0, 1)))
        self.returns((1, 3), share, pattern=(6, (0, 2)))
        self.returns((4, 5), share, pattern=(5, (0, 1, 2, 3)))
        self.returns((1, 2), share, pattern=(2, (1,)))
        self.returns((1, 60), share, pattern=(60, (59,)))
        self.returns((59, 60), share, pattern=(60, tuple(range(59))))
        self.returns((1, 2), share, pattern=(60, tuple(range(30))))
        for pattern in PATTERNS:
            wanted = Fraction(len(pattern[1]), pattern[0])
            self.returns((wanted.numerator, wanted.denominator), share, pattern=pattern)

    def test_wrong(self):
        for thing in no_patterns():
            self.fails(NoPattern, share, pattern=thing)


class TestShortest(Calls, unittest.TestCase):
    def test_examples(self):
        self.returns((2, (0,)), shortest, pattern=(4, (0, 2)))
        self.returns((2, (1,)), shortest, pattern=(6, (1, 3, 5)))
        self.returns((6, (0, 2)), shortest, pattern=(12, (0, 2, 6, 8)))
        self.returns((3, (0, 1)), shortest, pattern=(6, (0, 1, 3, 4)))
        self.returns((3, (2,)), shortest, pattern=(9, (2, 5, 8)))
        self.returns((8, (0, 1, 3, 4)), shortest, pattern=(8, (0, 1, 3, 4)))
        self.returns((2, (1,)), shortest, pattern=(2, (1,)))
        self.returns((60, (59,)), shortest, pattern=(60, (59,)))
        self.returns((5, (0,)), shortest, pattern=(60, tuple(range(0, 60, 5))))
        self.returns((2, (1,)), shortest, pattern=(60, tuple(range(1, 60, 2))))
        self.returns((30, (0, 7)), shortest, pattern=(60, (0, 7, 30, 37)))

    def test_written_out(self):
        for pattern in PATTERNS:
            least = shortest(pattern)
            for times in range(1, 60 // least[0] + 1):
                slots = tuple(slot + least[0] * k for k in range(times) for slot in least[1])
                self.returns(least, shortest, pattern=(least[0] * times, slots))

    def test_least(self):
        for pattern in PATTERNS:
            period, slots = shortest(pattern)
            ticks = ticks_of(pattern, 0, 120)
            self.assertEqual([tick for tick in range(120) if tick % period in slots], ticks)
            for less in range(1, period):
                again = [tick for tick in range(120) if tick % less in ticks]
                self.assertNotEqual(again, ticks)

    def test_wrong(self):
        for thing in no_patterns():
            self.fails(NoPattern, shortest, pattern=thing)


class TestTurned(Calls, unittest.TestCase):
    def test_examples(self):
        self.returns((6, (1, 3)), turned, pattern=(6, (0, 2)), by=1)
        self.returns((6, (0, 4)), turned, pattern=(6, (0, 2)), by=4)
        self.returns((6, (1, 5)), turned, pattern=(6, (0, 2)), by=-1)
        self.returns((6, (0, 2)), turned, pattern=(6, (0, 2)), by=0)
        self.returns((6, (0, 2)), turned, pattern=(6, (0, 2)), by=6)
        self.returns((6, (0, 2)), turned, pattern=(6, (0, 2)), by=-6 * 10 ** 11)
        self.returns((2, (0,)), turned, pattern=(2, (1,)), by=10 ** 13 - 1)
        self.returns((60, tuple(range(59))), turned, pattern=(60, tuple(range(1, 60))), by=59)

    def test_sends_as_with_the_offset(self):
        for pattern in PATTERNS:
            period = pattern[0]
            for by in [*range(-period - 1, 2 * period + 2), *FAR]:
                found = turned(pattern, by)
                self.assertTrue(is_pattern(found))
                self.assertEqual(found[0], period)
                self.assertEqual(list(found[1]), ticks_of(pattern, by % period, period))

    def test_wrong(self):
        for thing in no_patterns():
            self.fails(NoPattern, turned, pattern=thing, by=0)
            self.fails(NoPattern, turned, pattern=thing, by=None)
        for thing in no_integers():
            self.fails(NoNumber, turned, pattern=(6, (0, 2)), by=thing)


class TestMatching(Calls, unittest.TestCase):
    def test_examples(self):
        self.returns(0, matching, one=(4, (0, 1)), other=(4, (0, 1)))
        self.returns(3, matching, one=(4, (0, 3)), other=(4, (0, 1)))
        self.returns(1, matching, one=(4, (0, 1)), other=(4, (0, 3)))
        self.returns(1, matching, one=(4, (0, 2)), other=(6, (1, 3, 5)))
        self.returns(0, matching, one=(4, (0, 2)), other=(60, tuple(range(0, 60, 2))))
        self.returns(1, matching, one=(60, tuple(range(1, 60, 2))), other=(2, (0,)))
        self.returns(59, matching, one=(60, (58,)), other=(60, (59,)))
        self.returns(4, matching, one=(12, (0, 4, 6, 10)), other=(6, (0, 2)))
        self.returns(None, matching, one=(4, (0, 1)), other=(6, (0, 2)))
        self.returns(None, matching, one=(6, (0, 1)), other=(6, (0, 2)))
        self.returns(None, matching, one=(4, (0, 1)), other=(4, (0,)))
        self.returns(None, matching, one=(4, (0,)), other=(6, (0,)))
        self.returns(None, matching, one=(2, (0,)), other=(60, (0,)))

    def test_all_pairs(self):
        for one in PATTERNS:
            for other in PATTERNS:
                many = one[0] * other[0]
                ticks = ticks_of(one, 0, many)
                fit = [by for by in range(other[0]) if sends(other, by, ticks[0]) and ticks_of(other, by, many) == ticks]
                self.returns(min(fit, default=None), matching, one=one, other=other)

    def test_wrong(self):
        for thing in no_patterns():
            self.fails(NoPattern, matching, one=thing, other=(6, (0, 2)))
            self.fails(NoPattern, matching, one=(6, (0, 2)), other=thing)
            self.fails(NoPattern, matching, one=(4, (0,)), other=thing)
            self.fails(NoPattern, matching, one=thing, other=None)


if __name__ == "__main__":
    unittest.main()
