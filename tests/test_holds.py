"""Point [120], as far as the modules are there."""

import unittest
from fractions import Fraction
from itertools import permutations

from anyshift.counts import average, counts, fewest, greatest, heard, meets
from anyshift.evens import is_even
from anyshift.groups import classes, earliest, span, ticks_later
from anyshift.pairs import pair_meets
from anyshift.patterns import turned
from anyshift.shuts import is_safe
from anyshift.waits import longest_wait
from samples import SMALL_GROUPS, all_offsets, kinds, later


def few_offsets(group):
    """A few of all offsets."""
    choices = all_offsets(group)
    return choices[::max(1, len(choices) // 9)]


class TestHolds(unittest.TestCase):
    def test_same_but_for_time(self):
        for group in SMALL_GROUPS:
            for offsets in few_offsets(group):
                line = heard(group, offsets)
                for ticks in (1, 2, 5, span(group) - 1):
                    others = later(group, offsets, ticks)
                    self.assertEqual(counts(group, others), counts(group, offsets))
                    moved = ticks_later(group, offsets, others) % span(group)
                    self.assertEqual(heard(group, others), line[-moved:] + line[:-moved])
                self.assertEqual(counts(group, earliest(group, offsets)), counts(group, offsets))

    def test_averages_lie_between(self):
        for group in SMALL_GROUPS:
            for kind in kinds(group):
                self.assertLessEqual(fewest(group, kind)[0], Fraction(*average(group, kind)))
                self.assertLessEqual(Fraction(*average(group, kind)), greatest(group, kind)[0])

    def test_even_exactly_if_quiet_ticks_are(self):
        seen = set()
        for group in SMALL_GROUPS:
            even = len({counts(group, offsets) for offsets in all_offsets(group)}) == 1
            self.assertEqual(fewest(group, -1)[0] == greatest(group, -1)[0], even)
            self.assertIs(is_even(group), even)
            seen.add(even)
        self.assertEqual(seen, {True, False})

    def test_a_turned_pattern(self):
        for group in SMALL_GROUPS:
            wanted = sorted(counts(group, offsets) for offsets in classes(group))
            for who, pattern in enumerate(group):
                for by in (1, -1, 5):
                    changed = group[:who] + (turned(pattern, by),) + group[who + 1:]
                    self.assertEqual(sorted(counts(changed, offsets) for offsets in classes(changed)), wanted)
                    self.assertIs(is_even(changed), is_even(group))
                    self.assertIs(is_safe(changed), is_safe(group))
                    for each in range(len(group)):
                        self.assertEqual(longest_wait(changed, each)[0], longest_wait(group, each)[0])

    def test_another_order(self):
        for group in SMALL_GROUPS:
            offsets = few_offsets(group)[-1]
            first = counts(group, offsets)
            for order in permutations(range(len(group))):
                found = counts(tuple(group[who] for who in order), tuple(offsets[who] for who in order))
                self.assertEqual((found[0], found[-1]), (first[0], first[-1]))
                self.assertEqual([found[1 + at] for at in range(len(order))], [first[1 + who] for who in order])
                changed = tuple(group[who] for who in order)
                self.assertIs(is_even(changed), is_even(group))
                self.assertIs(is_safe(changed), is_safe(group))
                for at, who in enumerate(order):
                    self.assertEqual(fewest(changed, at)[0], fewest(group, who)[0])
                    self.assertEqual(longest_wait(changed, at)[0], longest_wait(group, who)[0])

    def test_one_sender_less(self):
        for group in SMALL_GROUPS:
            if len(group) == 2:
                continue
            for offsets in few_offsets(group):
                for who in range(len(group)):
                    fewer = group[:who] + group[who + 1:]
                    times = span(group) // span(fewer)
                    found = [many * times for many in counts(fewer, offsets[:who] + offsets[who + 1:])[1:-1]]
                    before = counts(group, offsets)[1:-1]
                    for one, other in zip(before[:who] + before[who + 1:], found):
                        self.assertLessEqual(one, other)

    def test_two_patterns(self):
        for group in SMALL_GROUPS:
            if len(group) > 2:
                continue
            most = max(meets(group, offsets, (0, 1)) for offsets in classes(group))
            self.assertEqual(max(pair_meets(*group)), most)
            self.assertEqual(max(pair_meets(*group[::-1])), most)
            for who in (0, 1):
                self.assertEqual(fewest(group, who)[0] + most, meets(group, (0, 0), (who,)))


if __name__ == "__main__":
    unittest.main()
