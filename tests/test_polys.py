"""Points 6 and 7: polynomials, and their quotients."""

import unittest

from helpers import SIXTY, THREE_HUNDRED, any_number, any_poly, dice, plain_times, plain_value, refused
from sumcraft.errors import NoNumber
from sumcraft.polys import poly_less, poly_plus, poly_times, poly_value, quotient, shifted, trimmed

PLACES = [0, 1, -1, 2, -3, 10, SIXTY, -SIXTY, THREE_HUNDRED, -THREE_HUNDRED]


def some_polys(seed):
    """Polynomials of all small lengths, with numbers of few and of many figures."""
    rng = dice(seed)
    made = [[], [1], [-1], [0, 1], [0, 0, -2], [1, 0, 1], [-1, 1], [1, 1]]
    for figures in (1, 2, 60, 300):
        for size in (1, 2, 3, 5, 8):
            made.append(any_poly(rng, size, figures))
    return made


def is_poly(case, answer):
    """That the answer is a polynomial of the kind told."""
    case.assertIs(type(answer), list)
    for number in answer:
        case.assertIs(type(number), int)
    if answer:
        case.assertNotEqual(answer[-1], 0)


class Trimmed(unittest.TestCase):
    def test_noughts_at_the_end_are_left_out(self):
        self.assertEqual(trimmed([1, 2, 0, 0]), [1, 2])
        self.assertEqual(trimmed([0, 2, 0]), [0, 2])
        self.assertEqual(trimmed([-1, 0]), [-1])

    def test_noughts_else_stay(self):
        self.assertEqual(trimmed([0, 0, 3]), [0, 0, 3])
        self.assertEqual(trimmed([1, 0, 0, 2]), [1, 0, 0, 2])

    def test_nothing_but_noughts(self):
        self.assertEqual(trimmed([]), [])
        self.assertEqual(trimmed([0]), [])
        self.assertEqual(trimmed([0] * 300), [])

    def test_polynomials_stay(self):
        for poly in some_polys(1):
            self.assertEqual(trimmed(poly), poly)


class Reckoning(unittest.TestCase):
    def test_plus(self):
        self.assertEqual(poly_plus([1, 2], [3, 4, 5]), [4, 6, 5])
        self.assertEqual(poly_plus([3, 4, 5], [1, 2]), [4, 6, 5])
        self.assertEqual(poly_plus([1, 2, 3], [0, 0, -3]), [1, 2])
        self.assertEqual(poly_plus([1, 2], [-1, -2]), [])
        self.assertEqual(poly_plus([], [7]), [7])
        self.assertEqual(poly_plus([7], []), [7])
        self.assertEqual(poly_plus([], []), [])

    def test_less(self):
        self.assertEqual(poly_less([1, 2], [3, 4, 5]), [-2, -2, -5])
        self.assertEqual(poly_less([3, 4, 5], [1, 2]), [2, 2, 5])
        self.assertEqual(poly_less([1, 2, 3], [0, 0, 3]), [1, 2])
        self.assertEqual(poly_less([1, 2], [1, 2]), [])
        self.assertEqual(poly_less([], [7, 1]), [-7, -1])
        self.assertEqual(poly_less([7], []), [7])
        self.assertEqual(poly_less([], []), [])

    def test_times(self):
        self.assertEqual(poly_times([1, 1], [1, 1]), [1, 2, 1])
        self.assertEqual(poly_times([-1, 1], [1, 1]), [-1, 0, 1])
        self.assertEqual(poly_times([0, 1], [0, 0, 3]), [0, 0, 0, 3])
        self.assertEqual(poly_times([], [1, 1]), [])
        self.assertEqual(poly_times([1, 1], []), [])
        self.assertEqual(poly_times([], []), [])

    def test_values_of_sums_differences_and_products(self):
        polys = some_polys(2)
        for one in polys:
            for other in polys:
                answers = [poly_plus(one, other), poly_less(one, other), poly_times(one, other)]
                for answer in answers:
                    is_poly(self, answer)
                self.assertEqual(answers[2], plain_times(one, other))
                for n in (0, 1, -2, SIXTY):
                    left, right = plain_value(one, n), plain_value(other, n)
                    values = [plain_value(answer, n) for answer in answers]
                    self.assertEqual(values, [left + right, left - right, left * right])

    def test_three_hundred_numbers(self):
        rng = dice(3)
        one, other = any_poly(rng, 300, 300), any_poly(rng, 300, 300)
        self.assertEqual(poly_plus(one, other), [a + b for a, b in zip(one, other)])
        self.assertEqual(poly_less(one, other), [a - b for a, b in zip(one, other)])
        product = poly_times(one, other)
        self.assertEqual(len(product), 599)
        self.assertEqual(plain_value(product, 3), plain_value(one, 3) * plain_value(other, 3))
        self.assertEqual(quotient(product, one), other)

    def test_value(self):
        self.assertEqual(poly_value([1, 2, 3], 0), 1)
        self.assertEqual(poly_value([1, 2, 3], 2), 17)
        self.assertEqual(poly_value([1, 2, 3], -1), 2)
        self.assertEqual(poly_value([], 5), 0)
        self.assertEqual(poly_value([9], -5), 9)
        for poly in some_polys(4):
            for n in PLACES:
                answer = poly_value(poly, n)
                self.assertEqual(answer, plain_value(poly, n))
                self.assertIs(type(answer), int)


class Shifted(unittest.TestCase):
    def test_ordinary(self):
        self.assertEqual(shifted([0, 1], 3), [3, 1])
        self.assertEqual(shifted([0, 0, 1], 1), [1, 2, 1])
        self.assertEqual(shifted([0, 0, 1], -2), [4, -4, 1])
        self.assertEqual(shifted([5], -7), [5])
        self.assertEqual(shifted([1, 2, 3], 0), [1, 2, 3])

    def test_nought(self):
        for by in PLACES:
            self.assertEqual(shifted([], by), [])

    def test_value_at_n_is_the_value_at_n_plus_by(self):
        for poly in some_polys(5):
            for by in PLACES:
                answer = shifted(poly, by)
                is_poly(self, answer)
                self.assertEqual(len(answer), len(poly))
                for n in range(-4, len(poly)):
                    self.assertEqual(plain_value(answer, n), plain_value(poly, n + by))

    def test_there_and_back(self):
        rng = dice(6)
        for by in (1, -1, 60, -SIXTY):
            poly = any_poly(rng, 40, 60)
            self.assertEqual(shifted(shifted(poly, by), -by), poly)

    def test_three_hundred_numbers(self):
        poly = any_poly(dice(7), 300, 300)
        answer = shifted(poly, -60)
        for n in (0, 1, 7):
            self.assertEqual(plain_value(answer, n), plain_value(poly, n - 60))


class Quotient(unittest.TestCase):
    def test_ordinary(self):
        self.assertEqual(quotient([-1, 0, 1], [1, 1]), [-1, 1])
        self.assertEqual(quotient([2, 4], [2]), [1, 2])
        self.assertEqual(quotient([2, 4], [-2]), [-1, -2])
        self.assertEqual(quotient([0, 0, 6], [0, 2]), [0, 3])
        self.assertEqual(quotient([5, 7], [5, 7]), [1])

    def test_none_where_there_is_none(self):
        self.assertIsNone(quotient([1, 0, 1], [1, 1]))
        self.assertIsNone(quotient([1, 1], [1, 0, 1]))
        self.assertIsNone(quotient([1], [0, 1]))
        self.assertIsNone(quotient([1, 2, 2], [1, 1]))

    def test_none_where_it_is_no_polynomial_of_whole_numbers(self):
        self.assertIsNone(quotient([1], [2]))
        self.assertIsNone(quotient([2, 3], [2]))
        self.assertIsNone(quotient([3, 2], [2]))
        self.assertIsNone(quotient([1, 1], [2, 2]))
        self.assertIsNone(quotient([0, 1, 2], [0, 2]))

    def test_of_nought(self):
        for other in ([1], [2], [0, 1], [3, -5], [THREE_HUNDRED]):
            self.assertEqual(quotient([], other), [])

    def test_by_nought_is_refused(self):
        for one in ([], [1], [0, 1], [THREE_HUNDRED, 1]):
            refused(self, NoNumber, quotient, one, [])

    def test_products_lead_back(self):
        polys = [poly for poly in some_polys(8) if poly]
        for one in polys:
            for other in polys:
                answer = quotient(plain_times(one, other), other)
                is_poly(self, answer)
                self.assertEqual(answer, one)

    def test_a_product_changed_in_one_number_has_none(self):
        rng = dice(9)
        for figures in (1, 60, 300):
            one, other = any_poly(rng, 5, figures), any_poly(rng, 4, figures)
            for place in range(8):
                product = plain_times(one, other)
                product[place] += 1
                if product[-1] != 0:
                    self.assertIsNone(quotient(product, other))

    def test_of_many_lists_the_one_that_fits(self):
        rng = dice(10)
        for _ in range(400):
            one = [any_number(rng, 1) for _ in range(4)] + [rng.randrange(1, 4)]
            other = [any_number(rng, 1) for _ in range(rng.randrange(3))] + [rng.choice([-2, -1, 1, 2])]
            answer = quotient(one, other)
            if answer is not None:
                self.assertEqual(plain_times(answer, other), one)


if __name__ == "__main__":
    unittest.main()
