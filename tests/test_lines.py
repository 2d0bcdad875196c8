"""Points [100], [101] and [102], with points [2] and [3] for these classes; trials stand in test_trials."""

import unittest

from anyshift.counts import heard
from anyshift.errors import NoGroup, NoSender, NothingDone, NotStarted, NoTicks, ShiftError, Started
from anyshift.groups import classes, span
from anyshift.lines import Line, Logged, Stopping, StoppingLogged
from anyshift.patterns import turned
from anyshift.waits import stop_ticks
from samples import (CLASSES_3600, HUGE, LINES, SMALL_GROUPS, SPAN_423, Calls, Choices, all_offsets, no_groups,
                     no_integers, no_patterns, no_senders)
from plain_line import PlainLine, same_deed, told, wanted

GROUP = ((4, (0, 1)), (6, (0, 2)))
SAME = ((2, (0,)), (2, (0,)))
FOUR = ((2, (1,)), (4, (0, 1, 3)), (6, (5,)), (3, (0, 1)))


class Lines(Calls):
    """Checks of lines."""

    def raises(self, error, line, function, **named):
        """It raises just this error, by position and by name, and the line stays as it was."""
        before = told(line)
        self.fails(error, function, **named)
        self.assertEqual(told(line), before)

    def tells(self, line, **values):
        """The properties and the number of active senders have just these values."""
        for name, value in values.items():
            found = len(line) if name == "many" else getattr(line, name)
            self.assertEqual(repr(found), repr(value), name)


class TestMade(Lines, unittest.TestCase):
    def test_at_first(self):
        for made in LINES:
            for group in (*SMALL_GROUPS, SPAN_423, CLASSES_3600, HUGE):
                line = made(*group)
                self.tells(line, group=group, now=0, active=(), through=(0,) * len(group), collisions=0, deeds=0, many=0)
                self.assertEqual(repr(line), f"{made.__name__}(tick 0, 0 active)")
                self.assertEqual([line[who] for who in range(len(group))], [None] * len(group))
                self.assertEqual([line(who) for who in range(len(group))], [None] * len(group))
                self.assertEqual([who for who in range(-3, 9) if who in line], [])

    def test_wrong(self):
        for made in LINES:
            for thing in no_groups():
                if isinstance(thing, tuple):
                    with self.assertRaises(NoGroup):
                        made(*thing)
                with self.assertRaises(NoGroup):
                    made(thing)
            for thing in no_patterns():
                for patterns in ((thing, GROUP[0]), (GROUP[0], thing), (*GROUP, thing), (thing, *FOUR[:3])):
                    with self.assertRaises(NoGroup):
                        made(*patterns)
            for patterns in ((), GROUP[:1], (*FOUR, FOUR[0]), (GROUP,), [GROUP], (list(GROUP),)):
                with self.assertRaises(NoGroup):
                    made(*patterns)

    def test_derived(self):
        self.assertEqual(Stopping.__bases__, (Line,))
        self.assertEqual(Logged.__bases__, (Line,))
        self.assertEqual(set(StoppingLogged.__bases__), {Stopping, Logged})
        for made in LINES:
            line = made(*GROUP)
            self.assertIsInstance(line, Line)
            self.assertEqual(isinstance(line, Stopping), made in (Stopping, StoppingLogged))
            self.assertEqual(isinstance(line, Logged), made in (Logged, StoppingLogged))
            self.assertEqual(hasattr(line, "log"), made in (Logged, StoppingLogged))


class TestStartAndStop(Lines, unittest.TestCase):
    def test_start(self):
        line = Line(*GROUP)
        self.assertIsNone(line.start(who=1))
        self.tells(line, now=0, active=(1,), through=(0, 0), collisions=0, deeds=1, many=1)
        self.assertEqual((line[0], line[1], line(0), line(1)), (None, 0, None, 0))
        line.run(7)
        self.assertIsNone(line.start(0))
        self.tells(line, now=7, active=(0, 1), deeds=3, many=2)
        self.assertEqual((line[0], line[1], line(0), line(1)), (7, 0, 0, 1))
        self.assertEqual(repr(line), "Line(tick 7, 2 active)")

    def test_it_sends_in_the_tick_in_which_it_begins(self):
        for ticks in range(0, 13):
            line = Line(*GROUP)
            if ticks:
                self.assertEqual(line.run(ticks), (-1,) * ticks)
            line.start(1)
            self.assertEqual(line.run(8), (1, -1, 1, -1, -1, -1, 1, -1))
            self.assertEqual(line[1], ticks)
            line = Line((4, (1,)), (6, (0, 2)))
            for _ in range(ticks):
                self.assertEqual(line.tick(), -1)
            line.start(0)
            self.assertEqual(line.run(8), (-1, 0, -1, -1, -1, 0, -1, -1))

    def test_started(self):
        for made in LINES:
            line = made(*FOUR)
            for who in (2, 0):
                line.start(who)
                self.raises(Started, line, line.start, who=who)
            line.run(3)
            self.raises(Started, line, line.start, who=2)
            self.raises(NotStarted, line, line.stop, who=1)
            line.stop(2)
            line.start(2)
            self.raises(Started, line, line.start, who=2)

    def test_stop(self):
        for made in LINES:
            line = made(*SAME)
            self.raises(NotStarted, line, line.stop, who=0)
            line.start(0)
            line.start(1)
            self.assertEqual(line.tick(), -2)
            self.assertIsNone(line.stop(who=0))
            self.tells(line, now=1, active=(1,), through=(0, 0), collisions=1, deeds=4, many=1)
            self.raises(NotStarted, line, line.stop, who=0)
            self.assertEqual((line[0], line(0), line[1], line(1)), (None, None, 0, 1))
            self.assertEqual(line.run(2), (-1, 1))
            self.tells(line, now=3, through=(0, 1), collisions=1, deeds=5)

    def test_it_may_begin_again(self):
        line = Line((5, (0, 1)), (5, (3,)))
        line.start(0)
        self.assertEqual(line.run(4), (0, 0, -1, -1))
        line.stop(0)
        self.assertEqual(line.run(3), (-1, -1, -1))
        line.start(0)
        self.assertEqual((line[0], line(0)), (7, 0))
        self.assertEqual(line.run(6), (0, 0, -1, -1, -1, 0))
        self.tells(line, through=(5, 0), active=(0,), deeds=6)
        line.stop(0)
        line.start(0)
        self.assertEqual((line[0], line.tick()), (13, 0))

    def test_wrong(self):
        for made in LINES:
            for group in (GROUP, FOUR):
                line = made(*group)
                line.start(1)
                line.tick()
                for thing in no_senders(group):
                    self.raises(NoSender, line, line.start, who=thing)
                    self.raises(NoSender, line, line.stop, who=thing)


class TestTicks(Lines, unittest.TestCase):
    def test_tick(self):
        line = Line(*GROUP)
        line.start(0)
        line.start(1)
        self.assertEqual([line.tick() for _ in range(12)], [-2, 0, 1, -1, 0, 0, 1, -1, -2, 0, -1, -1])
        self.tells(line, now=12, through=(4, 2), collisions=2, active=(0, 1), deeds=14)

    def test_run(self):
        line = Line(*GROUP)
        line.start(0)
        line.start(1)
        self.assertEqual(repr(line.run(ticks=12)), "(-2, 0, 1, -1, 0, 0, 1, -1, -2, 0, -1, -1)")
        self.tells(line, now=12, through=(4, 2), collisions=2, active=(0, 1), deeds=3)
        self.assertEqual(repr(line.run(1)), "(-2,)")
        self.tells(line, now=13, through=(4, 2), collisions=3, deeds=4)

    def test_as_heard(self):
        for made in (Line, Logged):
            for group in (*SMALL_GROUPS, SPAN_423, CLASSES_3600):
                line = made(*group)
                for who in range(len(group)):
                    line.start(who)
                for ticks in (200, 1, 199):
                    found = line.run(ticks)
                    if span(group) <= 420:
                        whole = heard(group, (0,) * len(group)) * 401
                        self.assertEqual(found, whole[line.now - ticks:line.now])

    def test_offsets_are_the_ticks_in_which_they_began(self):
        for group in SMALL_GROUPS:
            for offsets in classes(group)[:6]:
                line = Line(*group)
                for tick in range(max(offsets) + 1):
                    for who, offset in enumerate(offsets):
                        if offset == tick:
                            line.start(who)
                    if tick < max(offsets):
                        line.tick()
                whole = heard(group, offsets) * 3
                self.assertEqual(line.run(100), (whole * 60)[line.now - 100:line.now])

    def test_a_line_on_which_nobody_has_begun(self):
        for made in LINES:
            line = made(*FOUR)
            for _ in range(5):
                self.assertEqual(line.run(200), (-1,) * 200)
            self.assertEqual(line.tick(), -1)
            self.tells(line, now=1001, active=(), through=(0, 0, 0, 0), collisions=0, deeds=6, many=0)
            self.assertEqual(repr(line), f"{made.__name__}(tick 1001, 0 active)")

    def test_no_ticks(self):
        for made in LINES:
            line = made(*GROUP)
            line.start(0)
            for thing in no_integers() + [0, 201, -1, -200, 202, 10 ** 12, 10 ** 13 - 1]:
                self.raises(NoTicks, line, line.run, ticks=thing)
            self.assertEqual(len(line.run(200)), 200)
            self.assertEqual(len(line.run(1)), 1)
            self.tells(line, now=201, deeds=3)

    def test_long_runs(self):
        line = Logged(*GROUP)
        line.start(0)
        line.start(1)
        for _ in range(150):
            line.run(200)
        self.tells(line, now=30000, through=(10000, 5000), collisions=5000, deeds=152)
        self.assertEqual(line.log, heard(GROUP, (0, 0)) * 2500)
        for many in range(149, -1, -1):
            line.undo()
            self.assertEqual(line.now, 200 * many)
        self.tells(line, now=0, through=(0, 0), collisions=0, deeds=2, log=())


class TestUndo(Lines, unittest.TestCase):
    def test_each_deed(self):
        for made in LINES:
            line = made(*GROUP)
            kept = [told(line)]
            for deed in (
                lambda: line.start(1), lambda: line.tick(), lambda: line.run(5), lambda: line.start(0), lambda: line.run(9),
                lambda: line.run(1), lambda: line.start(0) if 0 not in line else line.stop(0), lambda: line.tick(),
                lambda: line.start(1) if 1 not in line else line.stop(1), lambda: line.run(200), lambda: line.tick(),
            ):
                deed()
                kept.append(told(line))
                self.assertEqual(line.deeds, len(kept) - 1)
            while line.deeds:
                self.assertEqual(told(line), kept.pop())
                self.assertIsNone(line.undo())
            self.assertEqual([told(line)], kept)
            self.assertEqual(line, made(*GROUP))

    def test_nothing_done(self):
        for made in LINES:
            line = made(*SAME)
            self.raises(NothingDone, line, line.undo)
            line.start(0)
            line.tick()
            line.undo()
            line.undo()
            self.raises(NothingDone, line, line.undo)
            self.assertEqual(line, made(*SAME))
            line.run(3)
            self.assertEqual(line.deeds, 1)
            line.undo()
            self.raises(NothingDone, line, line.undo)

    def test_what_is_done_again(self):
        for made in LINES:
            line, other = made(*FOUR), made(*FOUR)
            for who in (0, 1, 2, 3):
                line.start(who)
                other.start(who)
            line.run(7)
            line.undo()
            line.stop(1)
            line.undo()
            self.assertEqual((line, told(line)), (other, told(other)))
            self.assertEqual(line.run(50), other.run(50))
            self.assertEqual(told(line), told(other))

    def test_what_fails_is_no_deed(self):
        for made in LINES:
            line = made(*GROUP)
            line.start(0)
            line.tick()
            before = told(line)
            for wrong in (lambda: line.start(7), lambda: line.stop(1), lambda: line.run(0), lambda: line[2], lambda: line(2)):
                with self.assertRaises(ShiftError):
                    wrong()
                self.assertEqual(told(line), before)
            line.undo()
            self.tells(line, now=0, deeds=1, active=(0,))

    def test_many_deeds(self):
        line = StoppingLogged(*GROUP)
        for _ in range(3000):
            for who in (0, 1):
                if who not in line:
                    line.start(who)
            line.tick()
        self.assertEqual(line.now, 3000)
        for _ in range(line.deeds):
            line.undo()
        self.assertEqual(told(line), told(StoppingLogged(*GROUP)))


class TestTells(Lines, unittest.TestCase):
    def test_item_and_call(self):
        line = Line((6, (1, 2, 5)), (60, (59,)))
        line.start(0)
        line.run(3)
        line.start(1)
        self.assertEqual([line[who] for who in (0, 1)], [0, 3])
        found = []
        for _ in range(6):
            found.append((line(0), line(who=1)))
            line.tick()
        self.assertEqual(found, [(2, 59), (1, 58), (0, 57), (1, 56), (0, 55), (0, 54)])
        self.assertEqual([line[who] for who in (0, 1)], [0, 3])
        self.tells(line, deeds=9)

    def test_no_sender(self):
        for made in LINES:
            for group in (GROUP, FOUR):
                line = made(*group)
                line.start(1)
                for thing in no_senders(group):
                    before = told(line)
                    with self.assertRaises(NoSender):
                        line[thing]
                    with self.assertRaises(NoSender):
                        line(thing)
                    with self.assertRaises(NoSender):
                        line(who=thing)
                    self.assertEqual(told(line), before)

    def test_in(self):
        for made in LINES:
            line = made(*FOUR)
            line.start(1)
            line.start(0)
            for thing in no_integers() + [-1, -2, 2, 3, 4, 10 ** 12, (0, 1), line, made(*FOUR), GROUP]:
                self.assertIs(thing in line, False)
                self.assertIs(thing not in line, True)
            self.assertEqual([who in line for who in range(4)], [True, True, False, False])
            line.stop(0)
            self.assertEqual([who in line for who in range(4)], [False, True, False, False])
            self.tells(line, many=1, active=(1,))

    def test_active_is_ascending(self):
        line = Line(*FOUR)
        for who in (3, 1, 2, 0):
            line.start(who)
        self.tells(line, active=(0, 1, 2, 3), many=4)
        line.stop(1)
        self.tells(line, active=(0, 2, 3), many=3)
        line.start(1)
        self.tells(line, active=(0, 1, 2, 3), many=4)

    def test_repr(self):
        for made in LINES:
            line = made(*GROUP)
            self.assertEqual(repr(line), f"{made.__name__}(tick 0, 0 active)")
            line.run(1)
            line.start(1)
            self.assertEqual(repr(line), f"{made.__name__}(tick 1, 1 active)")
            self.assertEqual(str(line), repr(line))
            line.start(0)
            line.undo()
            line.undo()
            line.undo()
            line.run(200)
            self.assertEqual(f"{line!r}", f"{made.__name__}(tick 200, 0 active)")

    def test_what_is_told_stays_as_it_was(self):
        line = StoppingLogged(*GROUP)
        line.start(0)
        line.start(1)
        line.tick()
        held = (line.group, line.active, line.through, line.log)
        self.assertTrue(all(isinstance(each, tuple) for each in held))
        before = repr(held)
        line.run(100)
        line.start(0)
        self.assertEqual(repr(held), before)

    def test_asking_changes_nothing(self):
        line = Logged(*GROUP)
        line.start(0)
        line.run(5)
        self.assertEqual(told(line), told(line))
        for _ in range(3):
            self.assertEqual((line[0], line(0), len(line), 0 in line, line == line, repr(line)),
                             (0, 0, 1, True, True, "Logged(tick 5, 1 active)"))
        self.tells(line, now=5, deeds=2)

    def test_what_is_not_to_be_set(self):
        line = StoppingLogged(*GROUP)
        for name in ("group", "now", "active", "through", "collisions", "deeds", "log"):
            with self.assertRaises(AttributeError):
                setattr(line, name, 0)


class TestEqual(Lines, unittest.TestCase):
    def equal(self, one, other, wanted):
        """They are equal, or not, both ways."""
        for found in (one == other, other == one, not one != other, not other != one):
            self.assertIs(found, wanted)

    def test_classes_and_groups(self):
        for made in LINES:
            for other in LINES:
                self.equal(made(*GROUP), other(*GROUP), made is other)
            self.equal(made(*GROUP), made(*GROUP[::-1]), False)
            self.equal(made(*GROUP), made(*GROUP, GROUP[0]), False)
            self.equal(made((4, (0, 2)), (2, (0,))), made((2, (0,)), (2, (0,))), False)
            line = made(*GROUP)
            self.equal(line, line, True)

    def test_each_part(self):
        for made in LINES:
            line, other = made(*SAME), made(*SAME)
            line.tick()
            self.equal(line, other, False)
            other.tick()
            self.equal(line, other, True)
            line.start(0)
            self.equal(line, other, False)
            other.start(1)
            self.equal(line, other, False)
            other.undo()
            other.start(0)
            self.equal(line, other, True)

    def test_ticks_in_which_they_began(self):
        # Both send in the same ticks from then on.
        first, second = Line(*SAME), Line(*SAME)
        first.start(0)
        first.run(2)
        second.start(0)
        second.run(1)
        second.stop(0)
        second.tick()
        self.equal(first, second, False)
        second.start(0)
        self.assertEqual((first.now, first.active, first.through, first[0]), (2, (0,), (1, 0), 0))
        self.assertEqual((second.now, second.active, second.through, second[0]), (2, (0,), (1, 0), 2))
        self.equal(first, second, False)

    def test_through_and_collisions(self):
        line, other = Line(*SAME), Line(*SAME)
        line.start(0)
        line.tick()
        line.stop(0)
        other.start(1)
        other.tick()
        other.stop(1)
        self.assertEqual((line.through, other.through), ((1, 0), (0, 1)))
        self.equal(line, other, False)
        line, other = Line(*SAME), Line(*SAME)
        line.start(0)
        line.start(1)
        line.tick()
        line.stop(0)
        line.stop(1)
        other.tick()
        self.assertEqual((line.through, other.through, line.collisions, other.collisions), ((0, 0), (0, 0), 1, 0))
        self.equal(line, other, False)

    def test_deeds_and_log_do_not_count(self):
        line, other = Logged(*SAME), Logged(*SAME)
        line.run(3)
        for _ in range(3):
            other.tick()
        self.assertEqual((line.deeds, other.deeds), (1, 3))
        self.equal(line, other, True)
        line, other = Logged(*SAME), Logged(*SAME)
        line.start(0)
        line.tick()
        line.stop(0)
        line.run(3)
        other.run(2)
        other.start(0)
        other.tick()
        other.stop(0)
        other.tick()
        self.assertEqual((line.log, other.log), ((0, -1, -1, -1), (-1, -1, 0, -1)))
        self.equal(line, other, True)

    def test_nothing_else(self):
        class Agreeable:
            def __eq__(self, other):
                return True

        for made in LINES:
            line = made(*GROUP)
            for thing in no_integers() + [0, 1, GROUP, repr(line), (line,), [line], {0: line}, made, object()]:
                if not isinstance(thing, Line):
                    self.equal(line, thing, False)
            self.assertIs(line == Agreeable(), False)


class TestStopping(Lines, unittest.TestCase):
    def test_examples(self):
        for made in (Stopping, StoppingLogged):
            line = made(*GROUP)
            line.start(0)
            line.start(1)
            self.assertEqual(line.tick(), -2)
            self.tells(line, active=(0, 1), deeds=3, collisions=1)
            self.assertEqual(line.tick(), 0)
            self.tells(line, active=(1,), deeds=4, through=(1, 0))
            self.assertEqual((line[0], line(0)), (None, None))
            self.raises(NotStarted, line, line.stop, who=0)
            self.assertEqual(line.run(5), (1, -1, -1, -1, -1))
            self.tells(line, active=(), deeds=5, through=(1, 1), collisions=1, now=7)
            line.undo()
            self.tells(line, active=(1,), deeds=4, through=(1, 0), now=2)
            line.undo()
            self.tells(line, active=(0, 1), deeds=3, through=(0, 0), now=1)
            self.assertEqual((line[0], line[1]), (0, 0))

    def test_it_may_begin_again(self):
        for made in (Stopping, StoppingLogged):
            line = made(*SAME)
            for many in range(1, 5):
                line.start(1)
                self.assertEqual(line.tick(), 1)
                self.assertEqual(line.tick(), -1)
                self.tells(line, through=(0, many), active=(), deeds=3 * many)
            self.assertEqual(line.run(200), (-1,) * 200)

    def test_as_stop_ticks(self):
        for group in SMALL_GROUPS:
            choices = all_offsets(group)
            for offsets in choices[::max(1, len(choices) // 20)]:
                # Turned patterns that begin in tick 0 send as these do that began at some time before.
                line = StoppingLogged(*[turned(pattern, offset) for pattern, offset in zip(group, offsets)])
                for who in range(len(group)):
                    line.start(who)
                for _ in range(2):
                    line.run(200)
                found = [line.log.index(who) if who in line.log else None for who in range(len(group))]
                self.assertEqual(tuple(found), stop_ticks(group, offsets))
                self.assertEqual(line.active, tuple(who for who, tick in enumerate(found) if tick is None))

    def test_others_do_not_end(self):
        for made in (Line, Logged):
            line = made(*GROUP)
            line.start(0)
            self.assertEqual(line.run(6), (0, 0, -1, -1, 0, 0))
            self.tells(line, active=(0,), through=(4, 0))


class TestLogged(Lines, unittest.TestCase):
    def test_log(self):
        for made in (Logged, StoppingLogged):
            line = made(*SAME)
            self.tells(line, log=())
            line.start(0)
            self.tells(line, log=())
            line.tick()
            self.tells(line, log=(0,))
            line.run(3)
            self.tells(line, log=(0, -1, 0, -1) if made is Logged else (0, -1, -1, -1))
            line.undo()
            self.tells(line, log=(0,))
            line.undo()
            line.undo()
            self.tells(line, log=())
            line.run(2)
            self.tells(line, log=(-1, -1))

    def test_as_long_as_the_ticks(self):
        line = Logged(*FOUR)
        for who in range(4):
            line.start(who)
            line.run(11)
            self.assertEqual(len(line.log), line.now)
        line.undo()
        line.undo()
        self.assertEqual((len(line.log), line.now), (33, 33))


class TestManyDeeds(unittest.TestCase):
    def test_as_worked_out_anew(self):
        """Many deeds, one after another, each also undone now and then, against a line that is worked out anew."""
        choices = Choices(100)
        for made in LINES:
            for group in (*SMALL_GROUPS, GROUP, *[choices.group(9, 2 + many % 3) for many in range(12)]):
                line = made(*group)
                plain = PlainLine(group, stopping=made in (Stopping, StoppingLogged))
                for _ in range(40):
                    found, right = same_deed(line, plain, choices)
                    self.assertEqual(repr(found), repr(right))
                    self.assertEqual(told(line), wanted(plain, made))


if __name__ == "__main__":
    unittest.main()
