"""The refusals and how they stand to one another."""

import unittest

from boardglue import errors

NAMES = (
    "NoLength", "NoBoard", "NoText", "NoDeed", "NoName",
    "Grain", "Unfit", "TooMany", "NoRow", "Apart",
)


class Errors(unittest.TestCase):
    def test_yard_error_stands_straight_under_value_error(self):
        self.assertEqual(errors.YardError.__bases__, (ValueError,))

    def test_each_refusal_stands_straight_under_yard_error(self):
        for name in NAMES:
            with self.subTest(name):
                self.assertEqual(getattr(errors, name).__bases__, (errors.YardError,))

    def test_each_refusal_is_taken_as_yard_error_and_as_value_error(self):
        for name in NAMES:
            for above in (errors.YardError, ValueError):
                with self.subTest(name, above=above), self.assertRaises(above):
                    raise getattr(errors, name)("words")

    def test_no_refusal_is_under_another_one(self):
        for name in NAMES:
            for other in NAMES:
                with self.subTest(name, other=other):
                    under = issubclass(getattr(errors, name), getattr(errors, other))
                    self.assertEqual(under, name == other)


if __name__ == "__main__":
    unittest.main()
