"""The exceptions, as the interface lists them."""

import unittest

from anyshift import errors

PLAIN = (
    "NoPattern", "NoOffset", "NoTick", "NoNumber", "NoGroup", "NoOffsets", "NoSome", "NoKind", "NoSender", "NoShares",
    "NoPeriod", "NoRoom", "NoSlots", "NoMany", "OtherPeriods", "NoTicks", "Started", "NotStarted", "NothingDone",
    "NoHeard", "NoText",
)


class TestErrors(unittest.TestCase):
    def test_derived(self):
        self.assertEqual(errors.ShiftError.__bases__, (ValueError,))
        for name in (*PLAIN, "TooLong", "TooMany"):
            self.assertEqual(getattr(errors, name).__bases__, (errors.ShiftError,), name)

    def test_there_are_no_others(self):
        found = sorted(name for name, thing in vars(errors).items() if isinstance(thing, type))
        self.assertEqual(found, sorted((*PLAIN, "ShiftError", "TooLong", "TooMany")))

    def test_defined_here(self):
        for name in (*PLAIN, "ShiftError", "TooLong", "TooMany"):
            error = getattr(errors, name)
            self.assertEqual((error.__module__, error.__name__), ("anyshift.errors", name))

    def test_message_or_none(self):
        for name in (*PLAIN, "ShiftError"):
            error = getattr(errors, name)
            self.assertEqual(str(error()), "")
            self.assertEqual(str(error("too bad")), "too bad")
            with self.assertRaises(error) as held:
                raise error("why")
            self.assertEqual(str(held.exception), "why")

    def test_too_long(self):
        for error in (errors.TooLong(421, 420), errors.TooLong(span=421, limit=420), errors.TooLong(limit=420, span=421)):
            self.assertEqual((error.span, error.limit), (421, 420))
            self.assertIsInstance(str(error), str)
        with self.assertRaises(errors.TooLong):
            raise errors.TooLong(9, 8)

    def test_too_many(self):
        for error in (errors.TooMany(241, 240), errors.TooMany(many=241, limit=240), errors.TooMany(limit=240, many=241)):
            self.assertEqual((error.many, error.limit), (241, 240))
            self.assertIsInstance(str(error), str)
        with self.assertRaises(errors.TooMany):
            raise errors.TooMany(9, 8)

    def test_fields_are_those_of_each_one(self):
        first, second = errors.TooLong(500, 420), errors.TooLong(600, 420)
        self.assertEqual((first.span, second.span), (500, 600))
        first, second = errors.TooMany(500, 240), errors.TooMany(1001, 1000)
        self.assertEqual((first.many, first.limit, second.many, second.limit), (500, 240, 1001, 1000))


if __name__ == "__main__":
    unittest.main()
