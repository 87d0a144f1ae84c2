"""The refusals: their classes, what they stand under, and their fields."""

import unittest

from royaltree import errors

WORDED = ("BadFraction", "Taken", "NoName", "TooMuch", "NoRate", "NoneLeft")
FIELDED = ("Endless", "BadRow")


class TestErrors(unittest.TestCase):
    def test_royal_error_stands_straight_under_value_error(self):
        self.assertEqual(errors.RoyalError.__bases__, (ValueError,))

    def test_each_refusal_stands_straight_under_royal_error(self):
        for name in WORDED + FIELDED:
            with self.subTest(name=name):
                self.assertEqual(getattr(errors, name).__bases__, (errors.RoyalError,))

    def test_no_refusal_stands_under_another(self):
        classes = [getattr(errors, name) for name in WORDED + FIELDED]
        for one in classes:
            for other in classes:
                self.assertEqual(issubclass(one, other), one is other)

    def test_refusals_are_made_with_words(self):
        for name in WORDED:
            with self.subTest(name=name):
                with self.assertRaises(errors.RoyalError) as caught:
                    raise getattr(errors, name)("some words")
                self.assertIs(type(caught.exception), getattr(errors, name))

    def test_endless_has_its_names(self):
        with self.assertRaises(errors.Endless) as caught:
            raise errors.Endless(("ada", "bob"))
        self.assertEqual(caught.exception.names, ("ada", "bob"))

    def test_bad_row_has_its_row(self):
        with self.assertRaises(errors.BadRow) as caught:
            raise errors.BadRow(7)
        self.assertEqual(caught.exception.row, 7)

    def test_two_made_one_behind_the_other_keep_their_own(self):
        first, second = errors.Endless(("ada",)), errors.Endless(("bob", "cy"))
        self.assertEqual((first.names, second.names), (("ada",), ("bob", "cy")))
        early, late = errors.BadRow(0), errors.BadRow(12)
        self.assertEqual((early.row, late.row), (0, 12))


if __name__ == "__main__":
    unittest.main()
