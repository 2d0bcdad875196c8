"""Points [70] and [71], with points [2] and [3] for these functions."""

import unittest
from math import lcm

from anyshift.counts import heard
from anyshift.errors import NoGroup, NoOffsets, NoSender, TooMany
from anyshift.groups import classes, span
from anyshift.shuts import is_safe, shut_out
from anyshift.waits import last_stop, longest_wait, stop_ticks
from samples import (CLASSES_240, CLASSES_242, CLASSES_3600, HUGE, LARGE, SMALL_GROUPS, SPAN_420, SPAN_420_CLASSES_240,
                     SPAN_423, Calls, all_offsets, no_groups, no_offsets, no_senders, plain_heard)

GROUP = ((4, (0, 1)), (6, (0, 2)))
OTHER = ((4, (0, 2)), (6, (0, 2, 4)))
SAME = ((2, (0,)), (2, (0,)), (2, (0,)))
FOUR = ((2, (1,)), (4, (0, 1, 3)), (6, (5,)), (3, (0, 1)))
SAFE = (
    GROUP, ((3, (0,)), (5, (1, 2))), ((6, (0, 1)), (5, (0,)), (3, (2,))), ((8, (0, 1, 2, 4)), (7, (0, 2, 4, 6))),
    ((3, (0,)), (4, (1, 3)), (5, (0,))), ((2, (0,)), (3, (0, 2)), (5, (1,)), (7, (0, 3, 4))),
)

# The greatest product of periods whose offsets are gone through, and the least one above it of a span that is not.
PRODUCT_1000 = ((20, (0, 1, 3, 9)), (50, tuple(range(0, 50, 7))))
CUBE_1000 = ((10, (0, 2)), (10, (0, 3)), (10, (0, 4)))
PRODUCT_1008 = ((12, (0, 1)), (12, (0, 4)), (7, (0,)))
PRODUCT_1003 = ((17, (0, 1)), (59, (0, 4)))


def plain_wait(line, who):
    """The greatest number of ticks, one after another, in two spans in which the sender does not get through."""
    longest = run = 0
    for what in line * 2:
        run = 0 if what == who else run + 1
        longest = max(longest, run)
    return longest


def plain_stops(group, offsets):
    """The ticks in which the senders get through, if each is silent then; nothing new is heard after five spans."""
    found = [None] * len(group)
    for tick in range(5 * lcm(*[period for period, _ in group])):
        loud = []
        for who, (period, slots) in enumerate(group):
            if found[who] is None and (tick - offsets[who]) % period in slots:
                loud.append(who)
        if len(loud) == 1:
            found[loud[0]] = tick
    return tuple(found)


def plain_last(group):
    """The greatest of these ticks for all offsets, None if there is none, and the smallest such offsets."""
    rows = {offsets: plain_stops(group, offsets) for offsets in all_offsets(group)}
    never = [offsets for offsets in rows if None in rows[offsets]]
    if never:
        return (None, min(never))
    last = max(max(ticks) for ticks in rows.values())
    return (last, min(offsets for offsets in rows if last in rows[offsets]))


class TestLongestWait(Calls, unittest.TestCase):
    def test_examples(self):
        self.returns((3, (0, 0)), longest_wait, group=GROUP, who=0)
        self.returns((7, (0, 0)), longest_wait, group=GROUP, who=1)
        self.returns((None, (0, 0)), longest_wait, group=OTHER, who=0)
        self.returns((None, (0, 4)), longest_wait, group=((6, (0,)), (6, (1, 2))), who=0)
        self.returns((5, (0, 4)), longest_wait, group=((6, (0,)), (6, (1, 2))), who=1)
        self.returns((None, (0, 0, 0)), longest_wait, group=SAME, who=1)

    def test_beyond_the_end_of_a_span(self):
        # It gets through in the tick 7 of ten alone.
        self.returns((9, (0, 0)), longest_wait, group=((5, (2,)), (2, (0,))), who=0)
        # In 14 and 24 of 30: nine ticks are between these, but nineteen between 24 and 44.
        self.returns((19, (0, 0)), longest_wait, group=((10, (4,)), (3, (1,))), who=0)
        # In 0, 5, 10 and 25 of 30: here the longest wait is within the span.
        self.returns((14, (0, 0)), longest_wait, group=((6, (2, 3)), (5, (0,))), who=1)

    def test_of_all_offsets(self):
        for group in (*SMALL_GROUPS, *SAFE[1:]):
            lines = {offsets: plain_heard(group, offsets) for offsets in all_offsets(group)}
            for who in range(len(group)):
                shutting = [offsets for offsets in lines if who not in lines[offsets]]
                if shutting:
                    wanted = (None, min(shutting))
                    self.assertEqual(shut_out(group, who), wanted[1])
                else:
                    waits = {offsets: plain_wait(line, who) for offsets, line in lines.items()}
                    longest = max(waits.values())
                    wanted = (longest, min(offsets for offsets in waits if waits[offsets] == longest))
                self.returns(wanted, longest_wait, group=group, who=who)
                self.assertIn(wanted[1], classes(group))

    def test_from_any_tick_on(self):
        for group in SAFE:
            for who in range(len(group)):
                ticks = longest_wait(group, who)[0]
                for offsets in classes(group):
                    line = heard(group, offsets) * 2
                    for start in range(span(group)):
                        self.assertIn(who, line[start:start + ticks + 1])

    def test_limits(self):
        self.returns((plain_wait(plain_heard(SPAN_420, (0, 0)), 0), (0, 0)), longest_wait, group=SPAN_420, who=0)
        self.returns((None, (0, 0, 1)), longest_wait, group=CLASSES_240, who=1)
        group = SPAN_420_CLASSES_240
        for who in range(3):
            waits = [plain_wait(heard(group, offsets), who) for offsets in classes(group)]
            wanted = (max(waits), classes(group)[waits.index(max(waits))])
            self.returns(wanted, longest_wait, group=group, who=who)
        self.too_long(423, longest_wait, group=SPAN_423, who=0)
        self.too_many(242, longest_wait, group=CLASSES_242, who=0)
        self.too_many(3600, longest_wait, group=CLASSES_3600, who=3)
        self.too_long(660, longest_wait, group=LARGE, who=0)
        self.too_long(59 * 58 * 57 * 55, longest_wait, group=HUGE, who=1)

    def test_wrong(self):
        for thing in no_groups():
            self.fails(NoGroup, longest_wait, group=thing, who=0)
            self.fails(NoGroup, longest_wait, group=thing, who=None)
        for group in (GROUP, FOUR, SPAN_423, CLASSES_242, LARGE, HUGE):
            for thing in no_senders(group):
                self.fails(NoSender, longest_wait, group=group, who=thing)


class TestStopTicks(Calls, unittest.TestCase):
    def test_examples(self):
        self.returns((1, 2), stop_ticks, group=GROUP, offsets=(0, 0))
        self.returns((0, 1), stop_ticks, group=GROUP, offsets=(0, 1))
        self.returns((None, None), stop_ticks, group=OTHER, offsets=(0, 0))
        self.returns((0, 1), stop_ticks, group=OTHER, offsets=(0, 1))

    def test_who_is_silent_lets_others_through(self):
        # The second one is shut out as long as the first one sends.
        group = ((3, (0, 1)), (3, (0,)))
        self.returns((1, 3), stop_ticks, group=group, offsets=(0, 0))
        self.returns((0, 1), stop_ticks, group=group, offsets=(0, 1))
        self.returns((None, None, 1), stop_ticks, group=((2, (0,)), (2, (0,)), (2, (1,))), offsets=(0, 0, 0))
        self.returns((None, 1, None), stop_ticks, group=SAME, offsets=(0, 1, 0))
        self.returns((None, None, None, None), stop_ticks, group=SAME + SAME[:1], offsets=(1, 1, 1, 1))

    def test_senders_began_before_tick_0(self):
        self.returns((0, 2), stop_ticks, group=((4, (0, 3)), (4, (0,))), offsets=(1, 2))
        self.returns((0, 7), stop_ticks, group=((9, (1, 8)), (9, (0,))), offsets=(1, 7))

    def test_beyond_the_end_of_a_span(self):
        group = ((4, (0, 1, 2)), (4, (0, 1)), (4, (0,)))
        self.returns((2, 5, 8), stop_ticks, group=group, offsets=(0, 0, 0))
        group = ((4, (0, 1, 2)), (4, (0, 1)), (4, (0,)), (4, (0, 3)))
        for offsets in all_offsets(group):
            self.returns(plain_stops(group, offsets), stop_ticks, group=group, offsets=offsets)

    def test_tick_by_tick(self):
        for group in (*SMALL_GROUPS, *SAFE):
            choices = all_offsets(group)
            for offsets in choices[::max(1, len(choices) // 40)] + choices[-1:]:
                self.returns(plain_stops(group, offsets), stop_ticks, group=group, offsets=offsets)

    def test_in_a_safe_group_everybody_gets_through(self):
        for group in SAFE:
            self.assertTrue(is_safe(group))
            for offsets in all_offsets(group):
                self.assertNotIn(None, stop_ticks(group, offsets))

    def test_limits(self):
        for group in (SPAN_420, SPAN_420_CLASSES_240, CLASSES_242, CLASSES_3600):
            for offsets in ((0,) * len(group), tuple(period - 1 for period, _ in group)):
                self.returns(plain_stops(group, offsets), stop_ticks, group=group, offsets=offsets)
        self.too_long(423, stop_ticks, group=SPAN_423, offsets=(8, 46))
        self.too_long(660, stop_ticks, group=LARGE, offsets=(0, 0, 0, 0))
        self.too_long(59 * 58 * 57 * 55, stop_ticks, group=HUGE, offsets=(0, 0, 0, 0))

    def test_wrong(self):
        for thing in no_groups():
            self.fails(NoGroup, stop_ticks, group=thing, offsets=(0, 0))
            self.fails(NoGroup, stop_ticks, group=thing, offsets=None)
        for group in (GROUP, FOUR, SPAN_423, HUGE):
            for thing in no_offsets(group):
                self.fails(NoOffsets, stop_ticks, group=group, offsets=thing)


class TestLastStop(Calls, unittest.TestCase):
    def too_many_offsets(self, many, group):
        """It raises TooMany with this product of the periods."""
        raised = self.fails(TooMany, last_stop, group=group)
        self.assertEqual(repr((raised.many, raised.limit)), repr((many, 1000)))

    def test_examples(self):
        self.returns((5, (1, 5)), last_stop, group=GROUP)
        self.returns((None, (0, 0)), last_stop, group=OTHER)
        self.returns((None, (0, 0, 0)), last_stop, group=SAME)
        self.returns((None, (0, 1)), last_stop, group=((4, (0, 2)), (6, (1, 3, 5))))

    def test_not_only_the_first_sender(self):
        self.returns((3, None, None), stop_ticks, group=((3, (0,)), (2, (0,)), (2, (0,))), offsets=(0, 0, 0))
        self.returns((None, (0, 0, 0)), last_stop, group=((3, (0,)), (2, (0,)), (2, (0,))))
        self.returns((None, (0, 0, 3)), last_stop, group=((3, (0,)), (4, (0,)), (4, (1,))))
        self.returns((None, (0, 3, 0)), last_stop, group=((4, (0,)), (4, (1,)), (3, (0,))))

    def test_shut_out_is_not_never(self):
        # These are not safe, but who is shut out by the first one gets through when that one is silent.
        for group, wanted in (
            (((3, (0, 1)), (3, (0,))), (4, (1, 1))), (((4, (0, 1, 2)), (4, (0, 1))), (5, (1, 1))),
            (((4, (0, 1, 2)), (4, (0, 1)), (4, (0,))), (None, (0, 0, 2))),
        ):
            self.assertEqual(plain_last(group), wanted)
            self.assertFalse(is_safe(group))
            self.returns(wanted, last_stop, group=group)

    def test_offsets_that_differ_in_time_alone(self):
        # The classes of the group are (0, 0) and (0, 1), but none of them takes as long.
        self.assertEqual(max(max(stop_ticks(GROUP, offsets)) for offsets in classes(GROUP)), 2)
        self.assertNotIn(last_stop(GROUP)[1], classes(GROUP))

    def test_of_all_offsets(self):
        seen = set()
        for group in (*SMALL_GROUPS, *SAFE, ((4, (0, 2)), (6, (1, 3, 5)))):
            wanted = plain_last(group)
            self.returns(wanted, last_stop, group=group)
            seen.add((wanted[0] is None, any(wanted[1])))
            if is_safe(group):
                self.assertIsNotNone(wanted[0])
        self.assertEqual(seen, {(True, True), (True, False), (False, True)})

    def test_limits(self):
        self.returns(plain_last(SPAN_420), last_stop, group=SPAN_420)
        self.returns(plain_last(PRODUCT_1000), last_stop, group=PRODUCT_1000)
        self.returns(plain_last(CUBE_1000), last_stop, group=CUBE_1000)
        self.too_many_offsets(1008, group=PRODUCT_1008)
        self.too_many_offsets(14400, group=CLASSES_240)
        self.too_many_offsets(22 * 22 * 11, group=CLASSES_242)
        self.too_many_offsets(60 ** 3 * 7, group=CLASSES_3600)
        self.too_long(423, last_stop, group=SPAN_423)
        self.too_long(1003, last_stop, group=PRODUCT_1003)
        self.too_long(660, last_stop, group=LARGE)
        self.too_long(59 * 58 * 57 * 55, last_stop, group=HUGE)

    def test_wrong(self):
        for thing in no_groups():
            self.fails(NoGroup, last_stop, group=thing)


if __name__ == "__main__":
    unittest.main()
