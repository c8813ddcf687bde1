"""Point [13]: the errors."""

import unittest

from runswap import errors

NAMES = ["InvalidRow", "InvalidRuns", "InvalidRounds", "InvalidTotal", "InvalidNumber",
         "InvalidRunCount", "NotSettled", "NotStill", "InvalidBlocks", "InvalidPlace", "InvalidEntry",
         "InvalidIndex", "Full", "NothingToUndo", "InvalidOperation", "InvalidText", "InvalidCommand"]


class ErrorsTest(unittest.TestCase):
    def test_the_base_is_a_value_error(self):
        self.assertTrue(issubclass(errors.RowError, ValueError))

    def test_each_error_is_a_direct_subclass_of_the_base(self):
        for name in NAMES:
            with self.subTest(name=name):
                self.assertEqual(getattr(errors, name).__bases__, (errors.RowError,))

    def test_there_is_no_other_subclass(self):
        self.assertEqual(sorted(found.__name__ for found in errors.RowError.__subclasses__()), sorted(NAMES))

    def test_each_error_is_defined_in_its_file_under_its_name(self):
        for name in NAMES + ["RowError"]:
            with self.subTest(name=name):
                self.assertEqual(getattr(errors, name).__module__, "runswap.errors")
                self.assertEqual(getattr(errors, name).__name__, name)

    def test_each_error_takes_a_message(self):
        for name in NAMES + ["RowError"]:
            with self.subTest(name=name):
                error = getattr(errors, name)("what is wrong")
                self.assertEqual(str(error), "what is wrong")
                self.assertEqual(error.args, ("what is wrong",))

    def test_each_error_can_be_caught_as_the_base(self):
        for name in NAMES:
            with self.subTest(name=name), self.assertRaises(errors.RowError):
                raise getattr(errors, name)("what is wrong")


if __name__ == "__main__":
    unittest.main()
