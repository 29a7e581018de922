"""The error classes of the interface."""

import unittest

from saywhat import errors

NAMES = ("BadMatter", "BadTable", "BadActs", "BadGoal", "TooLarge", "BadSigns", "BadWords", "BadSplit",
         "BadDraw", "NothingDone", "BadDraws", "BadText")


class TestErrors(unittest.TestCase):
    def test_say_error_is_a_value_error(self):
        self.assertEqual(errors.SayError.__bases__, (ValueError,))

    def test_all_others_are_direct_subclasses(self):
        for name in NAMES:
            with self.subTest(name=name):
                self.assertEqual(getattr(errors, name).__bases__, (errors.SayError,))

    def test_all_are_defined_in_their_file(self):
        for name in ("SayError", *NAMES):
            with self.subTest(name=name):
                self.assertEqual(getattr(errors, name).__module__, "saywhat.errors")

    def test_attributes_are_set_when_an_error_is_created(self):
        self.assertEqual(vars(errors.BadMatter("GAINS")), {"part": "GAINS"})
        self.assertEqual(vars(errors.BadMatter(None)), {"part": None})
        self.assertEqual(vars(errors.BadDraws(3)), {"index": 3})
        self.assertEqual(vars(errors.BadDraws(None)), {"index": None})
        self.assertEqual(vars(errors.BadText(2)), {"row": 2})

    def test_each_can_be_caught_by_its_name_and_as_say_error(self):
        for name in NAMES:
            kind = getattr(errors, name)
            for caught in (kind, errors.SayError, ValueError):
                with self.subTest(name=name, caught=caught), self.assertRaises(caught):
                    raise kind("this is wrong")


if __name__ == "__main__":
    unittest.main()
