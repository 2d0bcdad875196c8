"""Trials of point [100], with point [3] for them."""

import unittest

from anyshift.errors import NoSender, NothingDone, NotStarted, NoTicks, Started
from anyshift.lines import Line, Logged, Stopping, StoppingLogged
from samples import LINES, Choices
from plain_line import PlainLine, same_deed, told, wanted

GROUP = ((4, (0, 1)), (6, (0, 2)))
SAME = ((2, (0,)), (2, (0,)))
FOUR = ((2, (1,)), (4, (0, 1, 3)), (6, (5,)), (3, (0, 1)))


class Broken(Exception):
    """What leaves a task."""


def some_deeds(line):
    """Deeds of all kinds, some of them taken back; those before them, too, if there are three."""
    for _ in range(min(3, line.deeds)):
        line.undo()
    for who in range(len(line.group)):
        if who not in line:
            line.start(who)
        line.tick()
    line.run(9)
    line.undo()
    line.run(4)
    if 0 in line:
        line.stop(0)


def broken(line):
    """The same deeds, and then an exception."""
    some_deeds(line)
    raise Broken("too bad")


def lines():
    """A line of each class as it is made, and one of each on which much was done."""
    found = []
    for made in LINES:
        found += [made(*GROUP), made(*FOUR), made(*SAME)]
        for line in found[-2:]:
            line.start(0)
            line.run(5)
            line.start(1)
            line.tick()
            line.run(3)
    return found


class TestTrial(unittest.TestCase):
    def test_task_is_called_with_the_line_itself(self):
        for line in lines():
            calls = []
            before = told(line)
            self.assertIsNone(line.trial(calls.append))
            self.assertEqual(len(calls), 1)
            self.assertIs(calls[0], line)
            self.assertEqual(told(line), before)

    def test_returns_what_task_returns(self):
        for line in lines():
            for value in (None, True, False, 0, "", (), [1], {}, object(), Broken, Broken("none")):
                self.assertIs(line.trial(lambda _: value), value)
            self.assertIs(line.trial(task=lambda same: same), line)

    def test_deeds_stay(self):
        for line, other in zip(lines(), lines()):
            some_deeds(line)
            self.assertIsNone(other.trial(some_deeds))
            self.assertEqual(told(line), told(other))
            self.assertEqual(line, other)
            while line.deeds:
                line.undo()
                other.undo()
                self.assertEqual(told(line), told(other))

    def test_a_trial_is_no_deed(self):
        for line in lines():
            many = line.deeds
            line.trial(lambda same: None)
            self.assertEqual(line.deeds, many)
            line.trial(lambda same: same.tick())
            self.assertEqual(line.deeds, many + 1)
            with self.assertRaises(Broken):
                line.trial(broken)
            self.assertEqual(line.deeds, many + 1)

    def test_exception_is_raised_on(self):
        for line, other in zip(lines(), lines()):
            before = told(line)
            error = Broken("just this one")

            def task(same):
                some_deeds(same)
                raise error

            with self.assertRaises(Broken) as held:
                line.trial(task)
            self.assertIs(held.exception, error)
            self.assertEqual(told(line), before)
            self.assertEqual(line, other)

    def test_exceptions_of_all_kinds(self):
        for line in lines():
            before = told(line)
            for error in (KeyError, ValueError, TypeError, StopIteration, RecursionError, Started, KeyboardInterrupt, SystemExit,
                          GeneratorExit, BaseException, AttributeError, ZeroDivisionError):
                def task(same):
                    some_deeds(same)
                    raise error

                with self.assertRaises(BaseException) as held:
                    line.trial(task)
                self.assertIs(held.exception.__class__, error)
                self.assertEqual(told(line), before)

    def test_exceptions_of_the_line(self):
        for line in lines():
            before = told(line)
            for error, last in (
                (NoSender, lambda same: same.start(-1)), (NoSender, lambda same: same.stop(9)), (NoSender, lambda same: same[4]),
                (NoTicks, lambda same: same.run(201)), (Started, lambda same: [same.start(1) for _ in range(2)]),
                (NotStarted, lambda same: [same.stop(1) for _ in range(2)]),
                (NothingDone, lambda same: [same.undo() for _ in range(same.deeds + 1)]),
            ):
                def task(same):
                    some_deeds(same)
                    last(same)

                with self.assertRaises(error):
                    line.trial(task)
                self.assertEqual(told(line), before)

    def test_deeds_before_it_may_be_taken_back(self):
        for line, other in zip(lines(), lines()):
            before = told(line)

            def task(same):
                while same.deeds:
                    same.undo()
                same.run(2)
                same.start(1)
                same.run(200)
                raise Broken

            with self.assertRaises(Broken):
                line.trial(task)
            self.assertEqual(told(line), before)
            # They can be taken back afterwards, as if there had been no trial.
            while other.deeds:
                line.undo()
                other.undo()
                self.assertEqual(told(line), told(other))
            with self.assertRaises(NothingDone):
                line.undo()

    def test_log_of_ticks_that_were_taken_back(self):
        for made in (Logged, StoppingLogged):
            line = made(*SAME)
            line.start(0)
            line.run(4)
            log = line.log

            def task(same):
                same.undo()
                same.undo()
                self.assertEqual(same.run(6), (-1,) * 6)
                raise Broken

            with self.assertRaises(Broken):
                line.trial(task)
            self.assertEqual((line.log, line.now, line.deeds), (log, 4, 2))

    def test_exception_that_the_task_catches(self):
        for line, other in zip(lines(), lines()):
            def task(same):
                some_deeds(same)
                try:
                    same.run(0)
                except NoTicks:
                    return same.now
                return None

            some_deeds(other)
            self.assertEqual(line.trial(task), other.now)
            self.assertEqual(told(line), told(other))


class TestTrialsWithinTrials(unittest.TestCase):
    def test_inner_one_takes_back_its_own_deeds_alone(self):
        for line, other in zip(lines(), lines()):
            def outer(same):
                some_deeds(same)
                inner = told(same)
                with self.assertRaises(Broken):
                    same.trial(broken)
                self.assertEqual(told(same), inner)
                same.run(2)

            line.trial(outer)
            some_deeds(other)
            other.run(2)
            self.assertEqual(told(line), told(other))
            while other.deeds:
                line.undo()
                other.undo()
                self.assertEqual(told(line), told(other))

    def test_outer_one_takes_back_those_of_the_inner_one(self):
        for line in lines():
            before = told(line)

            def outer(same):
                same.tick()
                same.trial(some_deeds)
                same.tick()
                raise Broken

            with self.assertRaises(Broken):
                line.trial(outer)
            self.assertEqual(told(line), before)

    def test_exception_leaves_both(self):
        for line in lines():
            before = told(line)
            seen = []

            def outer(same):
                some_deeds(same)
                inner = told(same)
                try:
                    same.trial(broken)
                finally:
                    seen.append(told(same) == inner)

            with self.assertRaises(Broken):
                line.trial(outer)
            self.assertEqual((told(line), seen), (before, [True]))

    def test_inner_one_takes_back_deeds_of_the_outer_one(self):
        for line in lines():
            def inner(same):
                while same.deeds:
                    same.undo()
                raise Broken

            def outer(same):
                same.run(3)
                same.run(4)
                before = told(same)
                with self.assertRaises(Broken):
                    same.trial(inner)
                self.assertEqual(told(same), before)
                same.undo()

            many, now = line.deeds, line.now
            line.trial(outer)
            self.assertEqual((line.deeds, line.now), (many + 1, now + 3))

    def test_many_deep(self):
        for made in (Stopping, Logged):
            line = made(*GROUP)
            line.start(0)
            seen = []

            def task(same):
                same.tick()
                if same.now < 50:
                    before = told(same)
                    # Every other one within is taken back.
                    if same.now in range(0, 50, 2):
                        same.trial(task)
                    else:
                        with self.assertRaises(Broken):
                            same.trial(lambda line: (task(line), broken(line)))
                        self.assertEqual(told(same), before)
                seen.append(same.now)

            line.trial(task)
            self.assertEqual(line.now, 1)
            self.assertEqual(max(seen), 50)

    def test_of_two_lines(self):
        one, other = Line(*GROUP), Line(*GROUP)
        one.start(0)

        def task(line):
            line.tick()
            other.run(3)
            raise Broken

        with self.assertRaises(Broken):
            one.trial(task)
        # The other line is no part of the trial.
        self.assertEqual((one.now, one.deeds, other.now, other.deeds), (0, 1, 3, 1))

    def test_as_worked_out_anew(self):
        """Many trials, some within others, against a line that is worked out anew."""
        choices = Choices(7)
        for made in LINES:
            for group in (GROUP, FOUR, SAME, *[choices.group(7, 2 + many % 3) for many in range(8)]):
                line = made(*group)
                plain = PlainLine(group, stopping=made in (Stopping, StoppingLogged))
                for _ in range(12):
                    self.trial(line, plain, choices, 3)
                    self.assertEqual(told(line), wanted(plain, made))

    def trial(self, line, plain, choices, depth):
        """A trial of a few deeds on both, with others within it; now and then an exception leaves it."""
        before = list(plain.done)
        leave = choices.below(2)

        def task(same):
            for _ in range(choices.below(5)):
                same_deed(same, plain, choices)
                if depth > 0 and choices.below(3) == 0:
                    self.trial(same, plain, choices, depth - 1)
                    self.assertEqual(told(same), wanted(plain, same.__class__))
            if leave:
                raise Broken
            return same.now

        if leave:
            with self.assertRaises(Broken):
                line.trial(task)
            plain.done = before
        else:
            self.assertEqual(line.trial(task), line.now)


if __name__ == "__main__":
    unittest.main()
