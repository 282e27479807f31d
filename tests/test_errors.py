"""The refusals and how their classes stand to one another."""

import unittest

from sumcraft import errors
from sumcraft.errors import (
    NoEnds, NoLine, NoName, NoNumber, NoPlace, NoRule, NoTerm, NotKept, SumError, TooFew, TooGreat,
)

REFUSALS = [NoNumber, NoRule, TooFew, NotKept, TooGreat, NoPlace, NoTerm, NoEnds, NoLine, NoName]


class Refusals(unittest.TestCase):
    def test_each_stands_straight_under_sum_error(self):
        for refusal in REFUSALS:
            with self.subTest(refusal=refusal):
                self.assertEqual(refusal.__bases__, (SumError,))
                self.assertTrue(issubclass(refusal, ValueError))

    def test_sum_error_is_a_value_error(self):
        self.assertEqual(SumError.__bases__, (ValueError,))

    def test_none_stands_under_another_one(self):
        for one in REFUSALS:
            for other in REFUSALS:
                if one is not other:
                    self.assertFalse(issubclass(one, other), (one, other))

    def test_there_are_ten_with_the_names_told(self):
        names = sorted(name for name in vars(errors) if not name.startswith("__"))
        self.assertEqual(names, sorted(["SumError"] + [refusal.__name__ for refusal in REFUSALS]))

    def test_they_are_raised_with_words_of_their_own(self):
        for refusal in REFUSALS:
            if refusal is not NotKept:
                with self.assertRaises(SumError) as caught:
                    raise refusal("words")
                self.assertEqual(str(caught.exception), "words")

    def test_not_kept_has_its_place(self):
        for place in (0, 1, 60, 400):
            error = NotKept(place)
            self.assertEqual(error.place, place)
            self.assertIs(type(error.place), int)
            self.assertIsInstance(error, SumError)
            self.assertNotEqual(str(error), "")


if __name__ == "__main__":
    unittest.main()
