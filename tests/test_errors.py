"""Point [2]: the refusals of craneyard/errors.py."""

import unittest

from craneyard import errors

NAMES = [
    "BadName", "BadNumber", "BadRail", "BadStack", "BadPlaces", "BadText", "Twice", "NoCrane", "NoStack",
    "NoBox", "NoJob", "Same", "Buried", "TooHigh", "TooHeavy", "Empty", "NoReach", "BadJournal",
]
FIELDS = {"BadText": "line", "BadJournal": "place"}


class Errors(unittest.TestCase):
    def test_crane_error_is_straight_under_value_error(self):
        self.assertEqual(errors.CraneError.__bases__, (ValueError,))

    def test_there_are_eighteen_straight_under_crane_error(self):
        self.assertEqual(len(NAMES), 18)
        for name in NAMES:
            with self.subTest(name):
                self.assertEqual(getattr(errors, name).__bases__, (errors.CraneError,))

    def test_none_is_missing_and_none_is_too_many(self):
        found = [name for name, value in vars(errors).items() if isinstance(value, type)]
        self.assertEqual(sorted(found), sorted(NAMES + ["CraneError"]))

    def test_each_is_caught_by_its_own_class_only(self):
        for name in NAMES:
            kind = getattr(errors, name)
            for other in NAMES:
                with self.subTest(name, other=other):
                    self.assertEqual(issubclass(kind, getattr(errors, other)), name == other)

    def test_each_can_be_raised_and_caught_as_a_refusal(self):
        for name in NAMES:
            with self.subTest(name), self.assertRaises(errors.CraneError) as caught:
                raise getattr(errors, name)(3)
            self.assertIs(caught.exception.__class__, getattr(errors, name))

    def test_fields(self):
        for name, field in FIELDS.items():
            for number in (0, 7, 10 ** 20):
                with self.subTest(name, number=number):
                    error = getattr(errors, name)(number)
                    self.assertEqual(vars(error), {field: number})


if __name__ == "__main__":
    unittest.main()
