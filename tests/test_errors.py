import unittest

from surefit import errors
from surefit.errors import BadLog, BadLot, BadTests, BadText, FitError

NAMES = ["BadLot", "BadState", "BadMany", "BadTest", "TooLarge", "FullLot", "BadPosition", "BadFee", "BadInspector",
         "BadSizes", "NothingDone", "BadTests", "BadLog", "BadText"]


class ErrorClasses(unittest.TestCase):

    def test_the_base_is_a_value_error(self):
        self.assertEqual(FitError.__bases__, (ValueError,))

    def test_all_others_are_its_direct_subclasses(self):
        for name in NAMES:
            with self.subTest(name=name):
                found = getattr(errors, name)
                self.assertEqual(found.__bases__, (FitError,))
                self.assertEqual((found.__module__, found.__name__), ("surefit.errors", name))

    def test_there_are_no_others(self):
        self.assertEqual(sorted(found.__name__ for found in FitError.__subclasses__()), sorted(NAMES))

    def test_attributes_are_set_when_an_error_is_created(self):
        self.assertEqual([BadLot(part).part for part in ("PINS", None)], ["PINS", None])
        self.assertEqual([BadTests(index).index for index in (0, 11, None)], [0, 11, None])
        self.assertEqual([BadLog(index).index for index in (0, 11, None)], [0, 11, None])
        self.assertEqual([BadText(row).row for row in (0, 7)], [0, 7])

    def test_attributes_can_be_given_by_their_names(self):
        found = [BadLot(part="GAP").part, BadTests(index=2).index, BadLog(index=3).index, BadText(row=4).row]
        self.assertEqual(found, ["GAP", 2, 3, 4])

    def test_each_can_be_raised_and_caught_as_the_base(self):
        for name in NAMES:
            with self.subTest(name=name), self.assertRaises(FitError):
                raise getattr(errors, name)("why")


if __name__ == "__main__":
    unittest.main()
