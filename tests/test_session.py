"""Point [1], as far as the modules are there, and the session of README.md."""

import doctest
import pathlib
import unittest

from anyshift.counts import counts, fewest, heard
from anyshift.evens import is_even
from anyshift.groups import classes, earliest, span
from anyshift.patterns import sends
from anyshift.shuts import addition, is_safe, shut_out
from samples import all_offsets

README = pathlib.Path(__file__).resolve().parent.parent / "README.md"

GROUP = ((4, (0, 1)), (6, (0, 2)))
OTHER = ((4, (0, 2)), (6, (0, 2, 4)))


class TestSession(unittest.TestCase):
    def test_short_session(self):
        self.assertEqual(repr(classes(GROUP)), "((0, 0), (0, 1))")
        self.assertEqual(repr((counts(GROUP, (0, 0)), counts(GROUP, (0, 1)))), "((4, 4, 2, 2), (4, 4, 2, 2))")
        self.assertEqual(repr(is_even(GROUP)), "True")
        self.assertEqual(repr((fewest(OTHER, 0), shut_out(OTHER, 1))), "((0, (0, 0)), (0, 0))")
        self.assertEqual(repr(addition(GROUP, 5)), "(5, (0,))")

    def test_what_is_told_of_it(self):
        self.assertEqual(span(GROUP), 12)
        for pattern, offset, ticks in (
            (GROUP[0], 0, [0, 1, 4, 5, 8, 9]), (GROUP[1], 0, [0, 2, 6, 8]), (GROUP[1], 1, [1, 3, 7, 9]),
        ):
            self.assertEqual([tick for tick in range(12) if sends(pattern, offset, tick)], ticks)
        self.assertEqual({earliest(GROUP, offsets) for offsets in all_offsets(GROUP)}, {(0, 0), (0, 1)})
        for tick in (0, 4, 6, 10):
            self.assertEqual([what for what in heard(OTHER, (tick % 4, tick % 6)) if what >= 0], [])
        self.assertTrue(is_safe((*GROUP, addition(GROUP, 5))))

    def test_session_of_the_readme(self):
        # The fences of the code would count as part of what a call returns.
        text = README.read_text().replace("```", "")
        test = doctest.DocTestParser().get_doctest(text, {}, "README.md", str(README), 0)
        lost, tried = doctest.DocTestRunner().run(test)
        self.assertGreater(tried, 0)
        self.assertEqual(lost, 0)


if __name__ == "__main__":
    unittest.main()
