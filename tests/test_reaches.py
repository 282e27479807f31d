"""Points 8 and 9: what polynomials have in common, and from where on they are clear of 0."""

import unittest

from helpers import SIXTY, THREE_HUNDRED, any_poly, dice, plain_common, plain_times, plain_value, refused
from sumcraft.errors import NoNumber, TooGreat
from sumcraft.polys import quotient
from sumcraft.reaches import clear, common, common_of, reach


def product_of(factors):
    answer = [1]
    for factor in factors:
        answer = plain_times(answer, factor)
    return answer


def minus(poly):
    return [-number for number in poly]


class Common(unittest.TestCase):
    def told(self, one, other, wanted):
        """That it is the common in both orders, whatever the signs."""
        for left in (one, minus(one)):
            for right in (other, minus(other)):
                for answer in (common(left, right), common(right, left)):
                    self.assertEqual(answer, wanted, (left, right))
                    self.assertIs(type(answer), list)
                    for number in answer:
                        self.assertIs(type(number), int)

    def test_ordinary(self):
        self.told([-1, 0, 1], [1, 2, 1], [1, 1])
        self.told([1, 1], [2, 1], [1])
        self.told([0, 0, 1], [0, 1, 1], [0, 1])
        self.told([1, 2, 1], [1, 2, 1], [1, 2, 1])

    def test_whole_numbers_count(self):
        self.told([0, 2], [4], [2])
        self.told([6], [4], [2])
        self.told([6, 6], [4, 4], [2, 2])
        self.told([6, 6], [0, 4], [2])
        self.told([6, 6], [9, 9, 9], [3])
        self.told([2, 3], [6], [1])
        self.told([SIXTY * 6], [0, SIXTY * 4], [SIXTY * 2])

    def test_last_number_above_0(self):
        self.told([3, -1], [6, -5, 1], [-3, 1])
        self.told([-5], [-10], [5])

    def test_with_nought(self):
        self.assertEqual(common([], []), [])
        self.told([], [2, 4], [2, 4])
        self.told([], [2, -4], [-2, 4])
        self.told([], [-7], [7])
        self.told([], [3, -1], [-3, 1])
        self.told([], [1], [1])

    def test_agrees_with_the_slow_way(self):
        rng = dice(1)
        for figures in (1, 2, 60):
            for _ in range(60):
                shared = any_poly(rng, rng.randrange(1, 5), figures)
                one = plain_times(shared, any_poly(rng, rng.randrange(0, 5), figures))
                other = plain_times(shared, any_poly(rng, rng.randrange(0, 5), figures))
                self.assertEqual(common(one, other), plain_common(one, other))

    def test_small_lists_all_of_them(self):
        small = [[a, b, c] for a in range(-2, 3) for b in range(-2, 3) for c in (-2, 1)]
        for one in small:
            for other in small:
                self.assertEqual(common(one, other), plain_common(one, other))

    def test_three_hundred_figures(self):
        rng = dice(2)
        shared, left, right = any_poly(rng, 4, 150), any_poly(rng, 3, 150), any_poly(rng, 5, 150)
        one, other = plain_times(shared, left), plain_times(shared, right)
        self.assertEqual(common(one, other), plain_common(one, other))
        self.told([THREE_HUNDRED, 1], [THREE_HUNDRED ** 2, 0, -1], [THREE_HUNDRED, 1])
        self.told([THREE_HUNDRED, 1], [THREE_HUNDRED, 2], [1])

    def test_three_hundred_numbers(self):
        rng = dice(3)
        one, other = any_poly(rng, 300, 300), any_poly(rng, 300, 300)
        self.assertEqual(common(one, other), [1])
        shared = any_poly(rng, 149, 150) + [1]
        left = plain_times(shared, any_poly(rng, 149, 149) + [1])
        right = plain_times(shared, any_poly(rng, 149, 149) + [-1])
        self.assertEqual(common(left, right), shared)

    def test_values_that_share_much_more_than_the_polynomials(self):
        # At each place both values are divided by the product of 1 .. 30.
        one = product_of([[i, 1] for i in range(30)])
        other = product_of([[-i, 1] for i in range(1, 31)])
        self.told(one, other, [1])
        self.told(plain_times(one, [7, 3]), plain_times(other, [7, 3]), [7, 3])
        self.told(one, product_of([[i, 1] for i in range(20, 50)]), product_of([[i, 1] for i in range(20, 30)]))

    def test_places_that_are_tried_first_may_mislead(self):
        for root in range(-40, 2000):
            one, other = [-root, 1], [0, -root - 1, 1]
            self.assertEqual(common(one, other), plain_common(one, other))
        for number in (31, 31 ** 40, 962, 962 ** 20, 2 ** 500):
            power = [0] * 50 + [1]
            self.told(power, [number] + power[1:], [1])
            self.told([0, 0] + power, [0, 0, number] + power[1:], [0, 0, 1])

    def test_roots_of_any_size(self):
        # Near a root the values are small, and what is shared could be taken for a number.
        for root in list(range(-100, 101)) + [SIXTY, -SIXTY, THREE_HUNDRED, -THREE_HUNDRED]:
            self.told([-root, 1], [-root, 1], [-root, 1])
            self.told([-root, 1], plain_times([-root, 1], [-root, 1]), [-root, 1])
            self.told(plain_times([-root, 1], [1, 1]), plain_times([-root, 1], [2, 1]), [-root, 1])

    def test_a_common_with_greater_numbers_than_the_two(self):
        # Products of 1 - n to powers have numbers of size 1, what they share has greater ones.
        def less_power(d):
            return [1] + [0] * (d - 1) + [-1]

        one = product_of([less_power(d) for d in (1, 2, 3, 4, 5, 7)])
        other = product_of([less_power(d) for d in (6, 8, 9, 10, 11, 13)])
        self.assertEqual(common(one, other), plain_common(one, other))

    def test_of_products_each_factor_as_often_as_in_both(self):
        factors = [[1, 1], [2, 3], [1, 0, 1], [-5, 1], [2], [3], [SIXTY, 1]]
        rng = dice(4)
        for _ in range(40):
            left = [rng.randrange(3) for _ in factors]
            right = [rng.randrange(3) for _ in factors]
            one = product_of([f for f, many in zip(factors, left) for _ in range(many)])
            other = product_of([f for f, many in zip(factors, right) for _ in range(many)])
            both = product_of([f for f, many in zip(factors, map(min, left, right)) for _ in range(many)])
            self.told(one, other, both)


class CommonOf(unittest.TestCase):
    def test_of_none_and_of_nought(self):
        self.assertEqual(common_of([]), [])
        self.assertEqual(common_of([[]]), [])
        self.assertEqual(common_of([[], [], []]), [])

    def test_of_one(self):
        self.assertEqual(common_of([[2, 4]]), [2, 4])
        self.assertEqual(common_of([[2, -4]]), [-2, 4])
        self.assertEqual(common_of([[-6]]), [6])

    def test_nought_among_others(self):
        self.assertEqual(common_of([[], [2, -4], []]), [-2, 4])
        self.assertEqual(common_of([[0, 2], [], [4]]), [2])

    def test_of_several(self):
        self.assertEqual(common_of([[6], [10], [15]]), [1])
        self.assertEqual(common_of([[0, 6], [0, 10], [0, 15]]), [0, 1])
        a, b, c = [1, 1], [2, 1], [3, 2]
        ab, bc, ca = plain_times(a, b), plain_times(b, c), plain_times(c, a)
        self.assertEqual(common_of([ab, bc, ca]), [1])
        self.assertEqual(common_of([ab, bc, b]), [2, 1])
        self.assertEqual(common_of([plain_times(ab, c), bc, minus(bc)]), bc)

    def test_divides_all_and_is_divided_by_what_does(self):
        rng = dice(5)
        for figures in (1, 60, 300):
            shared = any_poly(rng, 3, figures)
            polys = [plain_times(shared, any_poly(rng, rng.randrange(1, 5), figures)) for _ in range(5)]
            answer = common_of(polys)
            self.assertGreater(answer[-1], 0)
            self.assertIsNotNone(quotient(answer, shared))
            for poly in polys:
                self.assertIsNotNone(quotient(poly, answer))
            wanted = []
            for poly in polys:
                wanted = plain_common(wanted, poly)
            self.assertEqual(answer, wanted)

    def test_three_hundred_polynomials(self):
        polys = [plain_times([6, 6], [i, 1]) for i in range(300)]
        self.assertEqual(common_of(polys), [6, 6])


class Clear(unittest.TestCase):
    def told(self, poly, m, wanted):
        self.assertIs(clear(poly, m), wanted, (poly, m))
        self.assertIs(clear(minus(poly), m), wanted, (minus(poly), m))

    def test_ordinary(self):
        self.told([1, 1], 0, True)
        self.told([1, 2, 3], 0, True)
        self.told([-3, 1], 0, False)
        self.told([-3, 1], 3, False)
        self.told([-3, 1], 4, True)

    def test_a_first_number_of_0(self):
        self.told([0, 1], 0, False)
        self.told([0, 1], 1, True)
        self.told([0, 0, 5], 0, False)

    def test_noughts_have_no_sign(self):
        self.told([1, 0, 1], 0, True)
        self.told([1, 0, 0, 7], 0, True)
        self.told([1, 0, -1], 0, False)

    def test_unlike_signs_without_a_value_of_0(self):
        self.told([1, -1, 1], 0, False)
        self.told([1, -1, 1], 1, True)

    def test_numbers_alone(self):
        for number in (1, -1, SIXTY, THREE_HUNDRED):
            for m in (0, 1, 60, THREE_HUNDRED):
                self.told([number], m, True)

    def test_nought_is_clear_from_nowhere(self):
        for m in (0, 1, 60, 61, THREE_HUNDRED):
            self.told([], m, False)

    def test_places_of_many_figures(self):
        for far in (SIXTY, THREE_HUNDRED):
            self.told([-far, 1], far - 1, False)
            self.told([-far, 1], far, False)
            self.told([-far, 1], far + 1, True)

    def test_from_there_on_no_value_is_0_and_it_stays_clear(self):
        rng = dice(6)
        for _ in range(60):
            poly = any_poly(rng, rng.randrange(1, 6), 2)
            for m in range(30):
                if clear(poly, m):
                    self.assertTrue(clear(poly, m + 1))
                    self.assertTrue(all(plain_value(poly, n) != 0 for n in range(m, m + 50)))


class Reach(unittest.TestCase):
    def told(self, poly, wanted):
        for side in (poly, minus(poly)):
            answer = reach(side)
            self.assertEqual(answer, wanted, side)
            self.assertIs(type(answer), int)

    def test_ordinary(self):
        self.told([1], 0)
        self.told([-THREE_HUNDRED], 0)
        self.told([1, 1], 0)
        self.told([0, 1], 1)
        self.told([-3, 1], 4)
        self.told([1, -1, 1], 1)
        self.told([-3, 2], 2)

    def test_every_reach_up_to_60(self):
        for m in range(1, 61):
            self.told([1 - m, 1], m)
            self.told([1 - 2 * m, 2], m)

    def test_above_60_is_refused(self):
        for poly in ([-60, 1], [-121, 2], [-61, 1], [-SIXTY, 1], [-THREE_HUNDRED, 1], [4901, -140, 1]):
            refused(self, TooGreat, reach, poly)
            refused(self, TooGreat, reach, minus(poly))

    def test_just_60_by_signs_alone(self):
        # Shifted by 59 it is n * n + 2 - n, by 60 n * n + n + 2: no value of it is ever 0.
        poly = [59 * 59 + 59 + 2, -119, 1]
        self.assertFalse(clear(poly, 59))
        self.told(poly, 60)
        refused(self, TooGreat, reach, [60 * 60 + 60 + 2, -121, 1])

    def test_of_nought_is_refused(self):
        refused(self, NoNumber, reach, [])

    def test_the_least_from_which_it_is_clear(self):
        rng = dice(7)
        for figures in (1, 2, 60, 300):
            for _ in range(20):
                poly = any_poly(rng, rng.randrange(1, 5), figures)
                wanted = [m for m in range(61) if clear(poly, m)]
                if wanted:
                    self.told(poly, wanted[0])
                else:
                    refused(self, TooGreat, reach, poly)

    def test_three_hundred_numbers(self):
        self.told([1] * 300, 0)
        self.told([0] * 299 + [THREE_HUNDRED], 1)


if __name__ == "__main__":
    unittest.main()
