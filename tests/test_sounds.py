"""Point [90], with points [2] and [3] for these functions."""

import unittest
from itertools import combinations

from anyshift.counts import counts, heard
from anyshift.errors import NoGroup, NoOffsets
from anyshift.groups import classes, earliest, span
from anyshift.sounds import same_sound, sound, unclear
from samples import (CLASSES_240, CLASSES_242, CLASSES_3600, HUGE, LARGE, SMALL_GROUPS, SPAN_420, SPAN_420_CLASSES_240,
                     SPAN_423, Calls, Choices, all_offsets, later, no_groups, no_offsets, plain_heard)

GROUP = ((4, (0, 1)), (6, (0, 2)))
OTHER = ((4, (0, 2)), (6, (0, 2, 4)))
SAME = ((2, (0,)), (2, (0,)))


def plain_sound(group, offsets):
    """The sound of what is heard, tick by tick."""
    return tuple(0 if what == -1 else 2 if what == -2 else 1 for what in plain_heard(group, offsets))


def plain_same(one, other):
    """Whether some number of ticks from the beginning of the one, put behind its end, gives the other."""
    return any(one[ticks:] + one[:ticks] == other for ticks in range(len(one)))


def plain_unclear(group):
    """The smallest pair of two of the classes whose sounds are the same but for time, or None."""
    sounds = {offsets: plain_sound(group, offsets) for offsets in classes(group)}
    for one, other in combinations(sorted(sounds), 2):
        if plain_same(sounds[one], sounds[other]):
            return (one, other)
    return None


def more_groups():
    """Groups of few classes, of all numbers of patterns."""
    choices = Choices(90)
    found = [choices.group(8, 2) for _ in range(30)] + [choices.group(6, 3) for _ in range(30)]
    return found + [choices.group(4, 4) for _ in range(15)]


class TestSound(Calls, unittest.TestCase):
    def test_examples(self):
        self.returns((2, 1, 1, 0, 1, 1, 1, 0, 2, 1, 0, 0), sound, group=GROUP, offsets=(0, 0))
        self.returns((1, 2, 0, 1, 1, 1, 0, 1, 1, 2, 0, 0), sound, group=GROUP, offsets=(0, 1))
        self.returns((2, 0, 2, 0, 2, 0, 2, 0, 2, 0, 2, 0), sound, group=OTHER, offsets=(0, 0))
        self.returns((1,) * 12, sound, group=OTHER, offsets=(0, 1))
        self.returns((2, 0), sound, group=SAME, offsets=(0, 0))
        self.returns((0, 2), sound, group=SAME, offsets=(1, 1))
        self.returns((1, 1), sound, group=SAME, offsets=(0, 1))
        self.returns((2, 0), sound, group=SAME * 2, offsets=(0, 0, 0, 0))

    def test_tick_by_tick(self):
        for group in (*SMALL_GROUPS, *more_groups()):
            choices = all_offsets(group)
            for offsets in choices[::max(1, len(choices) // 12)] + choices[-1:]:
                wanted = plain_sound(group, offsets)
                self.returns(wanted, sound, group=group, offsets=offsets)
                found = counts(group, offsets)
                self.assertEqual([wanted.count(each) for each in range(3)], [found[0], sum(found[1:-1]), found[-1]])

    def test_limits(self):
        for group in (SPAN_420, SPAN_420_CLASSES_240, CLASSES_242, CLASSES_3600):
            offsets = tuple(period - 1 for period, _ in group)
            self.returns(plain_sound(group, offsets), sound, group=group, offsets=offsets)
        self.too_long(423, sound, group=SPAN_423, offsets=(8, 46))
        self.too_long(660, sound, group=LARGE, offsets=(0, 0, 0, 0))
        self.too_long(59 * 58 * 57 * 55, sound, group=HUGE, offsets=(0, 0, 0, 0))

    def test_wrong(self):
        for thing in no_groups():
            self.fails(NoGroup, sound, group=thing, offsets=(0, 0))
            self.fails(NoGroup, sound, group=thing, offsets=None)
        for group in (GROUP, SMALL_GROUPS[1], SPAN_423, HUGE):
            for thing in no_offsets(group):
                self.fails(NoOffsets, sound, group=group, offsets=thing)


class TestSameSound(Calls, unittest.TestCase):
    def test_examples(self):
        self.returns(True, same_sound, group=GROUP, offsets=(0, 0), others=(0, 0))
        self.returns(False, same_sound, group=GROUP, offsets=(0, 0), others=(0, 1))
        self.returns(True, same_sound, group=GROUP, offsets=(0, 1), others=(3, 4))
        self.returns(False, same_sound, group=OTHER, offsets=(0, 0), others=(0, 1))
        self.returns(True, same_sound, group=SAME, offsets=(0, 0), others=(1, 1))
        self.returns(True, same_sound, group=SAME, offsets=(0, 1), others=(1, 0))
        self.returns(False, same_sound, group=SAME, offsets=(0, 1), others=(1, 1))

    def test_other_senders_may_sound_the_same(self):
        # What is heard tells the two senders apart, the sound does not.
        group = ((4, (0,)), (4, (0,)))
        self.assertNotIn(heard(group, (0, 1)), [heard(group, later(group, (0, 3), ticks)) for ticks in range(4)])
        self.returns(True, same_sound, group=group, offsets=(0, 1), others=(0, 3))
        self.returns(False, same_sound, group=group, offsets=(0, 1), others=(0, 2))
        # As many ticks of each sound, but in another order.
        group = ((8, (0, 1)), (8, (0, 3)))
        one, other = (0, 2), (0, 3)
        self.assertEqual(sorted(sound(group, one)), sorted(sound(group, other)))
        self.returns(False, same_sound, group=group, offsets=one, others=other)

    def test_backwards_is_another_sound(self):
        group = ((6, (0,)), (6, (0, 1)))
        self.returns((2, 1, 0, 0, 0, 0), sound, group=group, offsets=(0, 0))
        self.returns((2, 0, 0, 0, 0, 1), sound, group=group, offsets=(0, 5))
        self.returns(False, same_sound, group=group, offsets=(0, 0), others=(0, 5))
        self.returns((1, 1, 0, 0, 1, 0), sound, group=((6, (0,)), (3, (0,))), offsets=(0, 1))
        self.returns((1, 0, 1, 0, 0, 1), sound, group=((6, (0,)), (3, (0,))), offsets=(0, 2))
        self.returns(False, same_sound, group=((6, (0,)), (3, (0,))), offsets=(0, 1), others=(0, 2))

    def test_by_all_turns(self):
        seen = set()
        for group in (*SMALL_GROUPS[:9], *more_groups()[::3]):
            choices = all_offsets(group)
            choices = choices[::max(1, len(choices) // 9)] + choices[-1:]
            sounds = {offsets: plain_sound(group, offsets) for offsets in choices}
            for one in choices:
                for other in choices:
                    wanted = plain_same(sounds[one], sounds[other])
                    self.returns(wanted, same_sound, group=group, offsets=one, others=other)
                    seen.add((wanted, earliest(group, one) == earliest(group, other)))
        self.assertEqual(seen, {(True, True), (True, False), (False, False)})

    def test_same_but_for_time(self):
        for group in (*SMALL_GROUPS, SPAN_420, CLASSES_242, CLASSES_3600):
            offsets = tuple(period // 2 for period, _ in group)
            for ticks in (0, 1, 7, span(group) - 1):
                self.returns(True, same_sound, group=group, offsets=offsets, others=later(group, offsets, ticks))

    def test_limits(self):
        group = SPAN_420_CLASSES_240
        for others in ((0, 0, 1), (0, 0, 2), (0, 1, 0), (59, 59, 27), (0, 59, 3)):
            wanted = plain_same(plain_sound(group, (0, 0, 0)), plain_sound(group, others))
            self.returns(wanted, same_sound, group=group, offsets=(0, 0, 0), others=others)
        self.too_long(423, same_sound, group=SPAN_423, offsets=(0, 0), others=(0, 0))
        self.too_long(660, same_sound, group=LARGE, offsets=(0, 0, 0, 0), others=(1, 1, 1, 1))
        self.too_long(59 * 58 * 57 * 55, same_sound, group=HUGE, offsets=(0, 0, 0, 0), others=(0, 0, 0, 1))

    def test_wrong(self):
        for thing in no_groups():
            self.fails(NoGroup, same_sound, group=thing, offsets=(0, 0), others=(0, 0))
            self.fails(NoGroup, same_sound, group=thing, offsets=None, others=None)
        for group in (GROUP, SMALL_GROUPS[1], SPAN_423, HUGE):
            zeros = (0,) * len(group)
            for thing in no_offsets(group):
                self.fails(NoOffsets, same_sound, group=group, offsets=thing, others=zeros)
                self.fails(NoOffsets, same_sound, group=group, offsets=zeros, others=thing)
                self.fails(NoOffsets, same_sound, group=group, offsets=thing, others=thing)


class TestUnclear(Calls, unittest.TestCase):
    def test_examples(self):
        for group in (GROUP, OTHER, SAME, ((6, (0,)), (3, (0,))), ((3, (0,)), (5, (1, 2)))):
            self.returns(None, unclear, group=group)
        self.returns(((0, 1), (0, 3)), unclear, group=((4, (0,)), (4, (0,))))
        self.returns(((0, 1), (0, 2)), unclear, group=((4, (0,)), (4, (0, 1))))
        self.returns(((0, 0, 1), (0, 1, 0)), unclear, group=SAME + SAME[:1])
        # Three of the classes sound the same: the first two of them.
        self.returns(True, same_sound, group=SAME + SAME[:1], offsets=(0, 0, 1), others=(0, 1, 1))
        # The first of the classes may be one of the pair.
        self.returns(((0, 0), (0, 2)), unclear, group=((4, (0, 2)), (4, (0, 1, 2))))

    def test_the_smallest_of_several_pairs(self):
        seen = set()
        for group in (*SMALL_GROUPS, *more_groups()):
            if len(classes(group)) <= 60:
                wanted = plain_unclear(group)
                self.returns(wanted, unclear, group=group)
                seen.add((len(group), wanted is None))
                if wanted is not None:
                    self.assertTrue(wanted[0] < wanted[1])
                    self.assertEqual([earliest(group, offsets) for offsets in wanted], list(wanted))
                    self.assertIs(same_sound(group, *wanted), True)
        self.assertEqual(seen, {(many, clear) for many in (2, 3, 4) for clear in (True, False)})

    def test_smallest_by_its_first_offsets(self):
        # The classes (0, 1) and (0, 7) sound the same, and (0, 2) and (0, 6), which lie between.
        self.returns(((0, 1), (0, 7)), unclear, group=((8, (0,)), (8, (0,))))
        self.returns(True, same_sound, group=((8, (0,)), (8, (0,))), offsets=(0, 2), others=(0, 6))

    def test_none_of_one_class(self):
        for group in (SPAN_420, ((2, (0,)), (3, (0, 2)), (5, (1,)), (7, (0, 3, 4))), ((4, (1, 2)), (9, (0,)))):
            self.assertEqual(len(classes(group)), 1)
            self.returns(None, unclear, group=group)

    def test_limits(self):
        self.returns(((0, 0, 0), (0, 0, 2)), unclear, group=SPAN_420_CLASSES_240)
        self.assertEqual(plain_unclear(SPAN_420_CLASSES_240), ((0, 0, 0), (0, 0, 2)))
        self.returns(plain_unclear(CLASSES_240), unclear, group=CLASSES_240)
        self.too_long(423, unclear, group=SPAN_423)
        self.too_many(242, unclear, group=CLASSES_242)
        self.too_many(3600, unclear, group=CLASSES_3600)
        self.too_long(660, unclear, group=LARGE)
        self.too_long(59 * 58 * 57 * 55, unclear, group=HUGE)

    def test_wrong(self):
        for thing in no_groups():
            self.fails(NoGroup, unclear, group=thing)


if __name__ == "__main__":
    unittest.main()
