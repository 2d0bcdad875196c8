"""Point [120], and what else the document says across the modules."""

import unittest
from fractions import Fraction
from itertools import permutations

from anyshift.codes import code_size, distances, meet_once, smallest_code
from anyshift.counts import average, counts, fewest, greatest, heard, meets
from anyshift.evens import even_with, is_even
from anyshift.groups import classes, earliest, span, ticks_later
from anyshift.lines import Line, Logged, StoppingLogged
from anyshift.pairs import pair_meets, sure_bound
from anyshift.patterns import matching, sends, share, turned
from anyshift.shuts import addition, is_safe, shut_out
from anyshift.sounds import same_sound, sound, unclear
from anyshift.texts import group_text, heard_text, offsets_text, read_group, read_heard, read_offsets
from anyshift.waits import last_stop, longest_wait, stop_ticks
from samples import SMALL_GROUPS, Choices, all_offsets, kinds, later


def more_groups():
    """Groups of all numbers of patterns, with few classes."""
    choices = Choices(120)
    return [choices.group(12 // many + 2, many) for many in (2, 3, 4) for _ in range(12)]


GROUPS = (*SMALL_GROUPS, *more_groups())


def few_offsets(group):
    """A few of all offsets."""
    choices = all_offsets(group)
    return choices[::max(1, len(choices) // 9)]


class TestHolds(unittest.TestCase):
    def test_same_but_for_time(self):
        for group in GROUPS:
            for offsets in few_offsets(group):
                line = heard(group, offsets)
                for ticks in (1, 2, 5, span(group) - 1):
                    others = later(group, offsets, ticks)
                    self.assertEqual(counts(group, others), counts(group, offsets))
                    moved = ticks_later(group, offsets, others) % span(group)
                    self.assertEqual(heard(group, others), line[-moved:] + line[:-moved])
                self.assertEqual(counts(group, earliest(group, offsets)), counts(group, offsets))

    def test_averages_lie_between(self):
        for group in GROUPS:
            for kind in kinds(group):
                self.assertLessEqual(fewest(group, kind)[0], Fraction(*average(group, kind)))
                self.assertLessEqual(Fraction(*average(group, kind)), greatest(group, kind)[0])

    def test_even_exactly_if_quiet_ticks_are(self):
        seen = set()
        for group in GROUPS:
            even = len({counts(group, offsets) for offsets in all_offsets(group)}) == 1
            self.assertEqual(fewest(group, -1)[0] == greatest(group, -1)[0], even)
            self.assertIs(is_even(group), even)
            seen.add(even)
        self.assertEqual(seen, {True, False})

    def test_a_turned_pattern(self):
        for group in GROUPS:
            wanted = sorted(counts(group, offsets) for offsets in classes(group))
            for who, pattern in enumerate(group):
                for by in (1, -1, 5):
                    changed = group[:who] + (turned(pattern, by),) + group[who + 1:]
                    self.assertEqual(sorted(counts(changed, offsets) for offsets in classes(changed)), wanted)
                    self.assertIs(is_even(changed), is_even(group))
                    self.assertIs(is_safe(changed), is_safe(group))
                    for each in range(len(group)):
                        self.assertEqual(longest_wait(changed, each)[0], longest_wait(group, each)[0])

    def test_another_order(self):
        for group in GROUPS:
            offsets = few_offsets(group)[-1]
            first = counts(group, offsets)
            for order in permutations(range(len(group))):
                found = counts(tuple(group[who] for who in order), tuple(offsets[who] for who in order))
                self.assertEqual((found[0], found[-1]), (first[0], first[-1]))
                self.assertEqual([found[1 + at] for at in range(len(order))], [first[1 + who] for who in order])
                changed = tuple(group[who] for who in order)
                self.assertIs(is_even(changed), is_even(group))
                self.assertIs(is_safe(changed), is_safe(group))
                for at, who in enumerate(order):
                    self.assertEqual(fewest(changed, at)[0], fewest(group, who)[0])
                    self.assertEqual(longest_wait(changed, at)[0], longest_wait(group, who)[0])

    def test_one_sender_less(self):
        for group in GROUPS:
            if len(group) == 2:
                continue
            for offsets in few_offsets(group):
                for who in range(len(group)):
                    fewer = group[:who] + group[who + 1:]
                    times = span(group) // span(fewer)
                    found = [many * times for many in counts(fewer, offsets[:who] + offsets[who + 1:])[1:-1]]
                    before = counts(group, offsets)[1:-1]
                    for one, other in zip(before[:who] + before[who + 1:], found):
                        self.assertLessEqual(one, other)

    def test_two_patterns(self):
        for group in GROUPS:
            if len(group) > 2:
                continue
            most = max(meets(group, offsets, (0, 1)) for offsets in classes(group))
            self.assertEqual(max(pair_meets(*group)), most)
            self.assertEqual(max(pair_meets(*group[::-1])), most)
            for who in (0, 1):
                self.assertEqual(fewest(group, who)[0] + most, meets(group, (0, 0), (who,)))


class TestAcrossModules(unittest.TestCase):
    def test_what_is_heard_on_a_line(self):
        for group in GROUPS:
            line = Logged(*group)
            for who in range(len(group)):
                line.start(who)
            ticks = span(group)
            while line.now + 200 < ticks:
                line.run(200)
            line.run(ticks - line.now)
            zeros = (0,) * len(group)
            self.assertEqual(line.log, heard(group, zeros))
            self.assertEqual((line.log.count(-1), *line.through, line.collisions), counts(group, zeros))
            self.assertEqual(read_heard(heard_text(line.log)), line.log)

    def test_sounds_are_of_what_is_heard(self):
        for group in GROUPS:
            for offsets in few_offsets(group):
                line = heard(group, offsets)
                self.assertEqual(sound(group, offsets), tuple({-1: 0, -2: 2}.get(what, 1) for what in line))
                self.assertIs(same_sound(group, offsets, earliest(group, offsets)), True)

    def test_who_can_tell_from_listening(self):
        seen = set()
        for group in GROUPS:
            found = unclear(group)
            if found is not None:
                self.assertEqual([offsets in classes(group) for offsets in found], [True, True])
                self.assertIs(same_sound(group, *found), True)
                one, other = [counts(group, offsets) for offsets in found]
                self.assertEqual((one[0], one[-1]), (other[0], other[-1]))
            seen.add(found is None)
        self.assertEqual(seen, {True, False})

    def test_nobody_is_shut_out_of_a_line(self):
        for group in GROUPS:
            for who in range(len(group)):
                ticks, offsets = longest_wait(group, who)
                self.assertEqual(ticks is None, fewest(group, who)[0] == 0)
                self.assertEqual(shut_out(group, who), offsets if ticks is None else None)
                self.assertLessEqual(sure_bound(group, who), fewest(group, who)[0])
                if len(group) == 2:
                    self.assertEqual(sure_bound(group, who), fewest(group, who)[0])

    def test_senders_that_stop(self):
        for group in GROUPS:
            zeros = (0,) * len(group)
            line = StoppingLogged(*group)
            for who in range(len(group)):
                line.start(who)
            ticks = stop_ticks(group, zeros)
            line.run(200)
            for who, tick in enumerate(ticks):
                gone = tick is not None and tick < 200
                self.assertEqual(who in line, not gone)
                self.assertEqual(line.through[who], 1 if gone else 0)
                self.assertEqual(line.log.count(who), 1 if gone else 0)
            product = 1
            for period, _ in group:
                product *= period
            if product <= 1000 and None not in ticks and last_stop(group)[0] is not None:
                self.assertGreaterEqual(last_stop(group)[0], max(ticks))

    def test_when_a_sender_sends_next(self):
        for group in GROUPS:
            line = Line(*group)
            for _ in range(5):
                for who in range(len(group)):
                    if who in line:
                        line.stop(who)
                    else:
                        line.start(who)
                    line.tick()
                for who in line.active:
                    ahead = line(who)
                    period = group[who][0]
                    sent = [sends(group[who], line[who] % period, line.now + ticks) for ticks in range(ahead + 1)]
                    self.assertEqual(sent, [False] * ahead + [True])

    def test_codes(self):
        for period in range(2, 14):
            for slots in (2, 3):
                for many in range(1, min(4, code_size(period, slots)) + 1):
                    code = smallest_code(period, slots, many)
                    for one, other in permutations(code, 2):
                        self.assertIs(meet_once(one, other), True)
                        self.assertEqual(set(distances(one)) & set(distances(other)), set())
                        self.assertEqual(max(pair_meets(one, other)), 1)
                        self.assertIs(meet_once(turned(one, 3), other), True)
                        self.assertIsNone(matching(one, other))
                    if many > 1:
                        self.assertEqual(read_group(group_text(code)), code)

    def test_texts_of_what_is_returned(self):
        for group in GROUPS:
            self.assertEqual(read_group(group_text(group)), group)
            for offsets in (classes(group)[-1], fewest(group, -2)[1], greatest(group, 0)[1], longest_wait(group, 0)[1]):
                self.assertEqual(read_offsets(group, offsets_text(group, offsets)), offsets)
        for shares in (((1, 2), (2, 3)), ((3, 4), (1, 5), (2, 3))):
            group = even_with(shares)
            self.assertIs(is_even(read_group(group_text(group))), True)
            self.assertEqual(tuple(share(pattern) for pattern in group), shares)
        group = ((4, (0, 1)), (6, (0, 2)))
        self.assertEqual(group_text((*group, addition(group, 5))), "4: 0 1\n6: 0 2\n5: 0\n")


if __name__ == "__main__":
    unittest.main()
