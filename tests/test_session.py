"""Point [1], word for word, and the session of README.md."""

import doctest
import pathlib
import unittest

from anyshift.counts import counts, heard
from anyshift.groups import classes, earliest, span
from anyshift.patterns import sends
from anyshift.shuts import addition, is_safe
from samples import all_offsets

README = pathlib.Path(__file__).resolve().parent.parent / "README.md"

SESSION = """
>>> from anyshift.counts import counts, fewest
>>> from anyshift.evens import is_even
>>> from anyshift.groups import classes
>>> from anyshift.shuts import addition, shut_out
>>> group = ((4, (0, 1)), (6, (0, 2)))
>>> classes(group)
((0, 0), (0, 1))
>>> counts(group, (0, 0)), counts(group, (0, 1))
((4, 4, 2, 2), (4, 4, 2, 2))
>>> is_even(group)
True
>>> other = ((4, (0, 2)), (6, (0, 2, 4)))
>>> fewest(other, 0), shut_out(other, 1)
((0, (0, 0)), (0, 0))
>>> addition(group, 5)
(5, (0,))
"""

GROUP = ((4, (0, 1)), (6, (0, 2)))
OTHER = ((4, (0, 2)), (6, (0, 2, 4)))


class TestSession(unittest.TestCase):
    def runs(self, text, name):
        """Each line of the session prints what stands below it."""
        test = doctest.DocTestParser().get_doctest(text, {}, name, name, 0)
        lost, tried = doctest.DocTestRunner().run(test)
        self.assertGreater(tried, 10)
        self.assertEqual(lost, 0)

    def test_short_session(self):
        self.runs(SESSION, "DOC.md")

    def test_what_is_told_of_it(self):
        self.assertEqual(span(GROUP), 12)
        for pattern, offset, ticks in (
            (GROUP[0], 0, [0, 1, 4, 5, 8, 9]), (GROUP[1], 0, [0, 2, 6, 8]), (GROUP[1], 1, [1, 3, 7, 9]),
        ):
            self.assertEqual([tick for tick in range(12) if sends(pattern, offset, tick)], ticks)
        self.assertEqual({earliest(GROUP, offsets) for offsets in all_offsets(GROUP)}, {(0, 0), (0, 1)})
        for offsets in classes(GROUP):
            self.assertEqual(counts(GROUP, offsets), (4, 4, 2, 2))
        for tick in (0, 4, 6, 10):
            self.assertEqual([what for what in heard(OTHER, (tick % 4, tick % 6)) if what >= 0], [])
        self.assertTrue(is_safe((*GROUP, addition(GROUP, 5))))

    def test_session_of_the_readme(self):
        # The fences of the code would count as part of what a call returns.
        self.runs(README.read_text().replace("```", ""), "README.md")


if __name__ == "__main__":
    unittest.main()
