"""Points 4 and 5: the divisor of whole numbers, and fractions."""

import unittest
from fractions import Fraction
from math import gcd

from helpers import SIXTY, THREE_HUNDRED, any_number, dice, refused
from sumcraft.errors import NoNumber
from sumcraft.ratios import LONG, WINDOW, added, divided, divisor, multiplied, ratio, taken

WHOLE = [0, 1, -1, 2, -2, 6, -6, 9, 35, -100, 2 ** 30, SIXTY, -SIXTY, 6 * SIXTY, THREE_HUNDRED, -4 * THREE_HUNDRED]


class Divisor(unittest.TestCase):
    def test_ordinary(self):
        self.assertEqual(divisor(12, 18), 6)
        self.assertEqual(divisor(18, 12), 6)
        self.assertEqual(divisor(7, 5), 1)
        self.assertEqual(divisor(5, 10), 5)

    def test_without_a_sign(self):
        for one, other in ((-12, 18), (12, -18), (-12, -18)):
            self.assertEqual(divisor(one, other), 6)

    def test_with_nought(self):
        self.assertEqual(divisor(0, 0), 0)
        self.assertEqual(divisor(0, 5), 5)
        self.assertEqual(divisor(5, 0), 5)
        self.assertEqual(divisor(0, -5), 5)
        self.assertEqual(divisor(-5, 0), 5)

    def test_every_pair_of_small_and_of_great_ones(self):
        for one in list(range(-12, 13)) + WHOLE:
            for other in list(range(-12, 13)) + WHOLE:
                answer = divisor(one, other)
                self.assertEqual(answer, gcd(one, other), (one, other))
                self.assertIs(type(answer), int)

    def test_sixty_and_three_hundred_figures(self):
        rng = dice(4)
        for figures in (60, 300):
            for _ in range(60):
                shared = any_number(rng, figures // 3)
                one = shared * any_number(rng, figures * 2 // 3)
                other = shared * any_number(rng, figures * 2 // 3)
                self.assertEqual(divisor(one, other), gcd(one, other))

    def test_told_numbers_of_any_length(self):
        rng = dice(5)
        for bits in (WINDOW, LONG - 1, LONG, LONG + 1, LONG + WINDOW, 9000, 30000):
            for other_bits in (1, 200, LONG, LONG + 1, bits, 3 * bits):
                for shared_bits in (1, 40, LONG + 7):
                    shared = rng.getrandbits(shared_bits) + 1
                    one = shared * (rng.getrandbits(bits) + 1)
                    other = -shared * (rng.getrandbits(other_bits) + 1)
                    self.assertEqual(divisor(one, other), gcd(one, other))
                    self.assertEqual(divisor(other, one), gcd(one, other))

    def test_long_numbers_of_a_plain_build(self):
        one, other = 1, 1
        while one.bit_length() < 3 * LONG:
            one, other = one + other, one
        power = 2 ** (2 * LONG)
        pairs = [
            (one, other), (SIXTY * one, SIXTY * other), (one, one), (one, -7 * one), (one, one + 1), (one, 0),
            (power, power), (power, 3 * power), (power - 1, power), (power - 1, power + 1), (power, 2 ** LONG),
            (power * power - 1, power - 1), (power * power + 1, power), (2 ** (LONG + 1), 2 ** LONG + 1),
        ]
        for left, right in pairs:
            self.assertEqual(divisor(left, right), gcd(left, right))
            self.assertEqual(divisor(right, left), gcd(left, right))


class Making(unittest.TestCase):
    def test_lowest_terms_and_bottom_from_1_on(self):
        self.assertEqual(ratio(6, 4), (3, 2))
        self.assertEqual(ratio(-6, 4), (-3, 2))
        self.assertEqual(ratio(6, -4), (-3, 2))
        self.assertEqual(ratio(-6, -4), (3, 2))
        self.assertEqual(ratio(5, 1), (5, 1))
        self.assertEqual(ratio(5, -1), (-5, 1))
        self.assertEqual(ratio(4, 2), (2, 1))

    def test_nought(self):
        for bottom in (1, -1, 7, -7, THREE_HUNDRED, -THREE_HUNDRED):
            self.assertEqual(ratio(0, bottom), (0, 1))

    def test_all_of_whole_numbers(self):
        for top in WHOLE:
            for bottom in WHOLE:
                if bottom != 0:
                    is_fraction(self, ratio(top, bottom), Fraction(top, bottom))

    def test_bottom_of_0_is_refused(self):
        for top in WHOLE:
            refused(self, NoNumber, ratio, top, 0)


def is_fraction(case, answer, wanted):
    """That the answer is this fraction, of the kind told."""
    case.assertIs(type(answer), tuple)
    case.assertEqual(answer, (wanted.numerator, wanted.denominator))
    for number in answer:
        case.assertIs(type(number), int)


class Reckoning(unittest.TestCase):
    def pairs(self):
        rng = dice(6)
        whole = [Fraction(number) for number in (0, 1, -1, 5)]
        parts = [Fraction(1, 2), Fraction(-1, 2), Fraction(3, 4), Fraction(-7, 6), Fraction(5, 6)]
        long = [
            Fraction(any_number(rng, figures), abs(any_number(rng, figures)) + 1)
            for figures in (60, 60, 300, 300)
        ]
        numbers = whole + parts + long + [Fraction(1, THREE_HUNDRED), Fraction(-THREE_HUNDRED, SIXTY)]
        return [(one, other) for one in numbers for other in numbers]

    def agree(self, function, plain, pairs):
        for one, other in pairs:
            answer = function((one.numerator, one.denominator), (other.numerator, other.denominator))
            is_fraction(self, answer, plain(one, other))

    def test_added(self):
        self.assertEqual(added((1, 2), (1, 3)), (5, 6))
        self.assertEqual(added((1, 6), (1, 3)), (1, 2))
        self.assertEqual(added((1, 2), (-1, 2)), (0, 1))
        self.agree(added, lambda one, other: one + other, self.pairs())

    def test_taken(self):
        self.assertEqual(taken((1, 2), (1, 3)), (1, 6))
        self.assertEqual(taken((1, 3), (1, 2)), (-1, 6))
        self.assertEqual(taken((1, 2), (1, 2)), (0, 1))
        self.agree(taken, lambda one, other: one - other, self.pairs())

    def test_multiplied(self):
        self.assertEqual(multiplied((2, 3), (3, 4)), (1, 2))
        self.assertEqual(multiplied((2, 3), (0, 1)), (0, 1))
        self.agree(multiplied, lambda one, other: one * other, self.pairs())

    def test_divided(self):
        self.assertEqual(divided((1, 2), (3, 4)), (2, 3))
        self.assertEqual(divided((1, 2), (-3, 4)), (-2, 3))
        self.assertEqual(divided((0, 1), (-3, 4)), (0, 1))
        pairs = [pair for pair in self.pairs() if pair[1] != 0]
        self.agree(divided, lambda one, other: one / other, pairs)

    def test_quotient_by_nought_is_refused(self):
        for one in ((0, 1), (1, 1), (-3, 4), (THREE_HUNDRED, 2)):
            refused(self, NoNumber, divided, one, (0, 1))


if __name__ == "__main__":
    unittest.main()
