"""Points 22 and 3: the gap of two rows, and two rows held against one another."""

import copy
import unittest
from fractions import Fraction
from itertools import product

from helpers import SIXTY, THREE_HUNDRED, pairs_of, plain_row, refused
from sumcraft.errors import TooGreat
from sumcraft.joins import plus_rule
from sumcraft.made import poly_row, power_row, row_ahead, row_plus, row_scaled, row_sums, row_times
from sumcraft.rows import Row
from sumcraft.rules import need_of
from sumcraft.sides import held_against, row_gap

FIBONACCI = [[-1], [-1], [1]]
FACTORIALS = [[-1, -1], [1]]
HARMONIC = [[1, 1], [-3, -2], [2, 1]]
JUMP_AT_3 = [[2, -1], [-2, 1]]
JUMP_AT_60 = [[59, -1], [-59, 1]]

ROWS = [
    ([[3]], []), ([[0, 1]], [Fraction(4, 3)]), ([[-2, 1]], [0, 0, 5]), ([[-1], [1]], [Fraction(2, 3)]),
    ([[], [1]], [4]), (FACTORIALS, [1]), (JUMP_AT_3, [5, 5, 5, -1]), (JUMP_AT_60, [1] * 60 + [Fraction(-3, 2)]),
    (FIBONACCI, [0, 1]), (HARMONIC, [0, 1]), ([[1], [-2], [1]], [3, 5]),
]


def row_of(rule, first):
    return Row(rule, pairs_of(first))


def small_pairs():
    for p, first in ROWS:
        for q, second in ROWS:
            if (len(p) + len(q) - 2) ** 2 * max(map(len, p + q)) <= 32:
                yield p, first, q, second


class Gap(unittest.TestCase):
    def test_ordinary(self):
        row = row_gap(row_of(FIBONACCI, [0, 1]), power_row((2, 1)))
        self.assertIs(type(row), Row)
        self.assertEqual(row.told(), ([[2], [1], [-3], [1]], pairs_of([-1, -1, -3])))
        self.assertEqual([row.at(n) for n in range(6)], pairs_of([-1, -1, -3, -6, -13, -27]))

    def test_the_one_less_the_other(self):
        one, other = poly_row([5]), poly_row([2])
        self.assertEqual([row_gap(one, other).at(9), row_gap(other, one).at(9)], pairs_of([3, -3]))

    def test_values_rule_and_first_ones(self):
        for p, first, q, second in small_pairs():
            rule = plus_rule(p, q)
            row = row_gap(row_of(p, first), row_of(q, second))
            values = [x - y for x, y in zip(plain_row(p, first, 70), plain_row(q, second, 70))]
            self.assertEqual(row.told(), (rule, pairs_of(values[:need_of(rule)])))
            self.assertEqual([row.at(n) for n in range(70)], pairs_of(values))

    def test_of_a_row_and_itself(self):
        row = row_of(FIBONACCI, [0, 1])
        self.assertEqual(row_gap(row, row).told(), (FIBONACCI, pairs_of([0, 0])))


class Same(unittest.TestCase):
    def told(self, one, other, many):
        answer = held_against(one, other)
        self.assertEqual(answer, ("same", many))
        self.assertEqual([type(answer), type(answer[1])], [tuple, int])
        self.assertEqual(held_against(other, one)[0], "same")
        self.assertEqual(many, need_of(row_gap(one, other).told()[0]))

    def test_a_row_and_itself(self):
        for p, first in ROWS:
            if (2 * len(p) - 2) ** 2 * max(map(len, p)) <= 32:
                row = row_of(p, first)
                self.told(row, row, need_of(plus_rule(p, p)))
                self.told(row, row_of(p, first), need_of(plus_rule(p, p)))

    def test_of_order_0(self):
        self.told(row_of([[1]], []), row_of([[2]], []), 0)
        self.told(row_of([[0, 1]], [0]), row_of([[2]], []), 1)
        self.told(row_of([[-59, 1]], [0] * 60), row_of([[-3, 1]], [0] * 4), 60)

    def test_told_by_unlike_rules(self):
        self.told(row_of([[-2], [1]], [1]), row_of([[-4], [], [1]], [1, 2]), 2)
        self.told(row_of([[-2], [1]], [3]), row_of([[2], [-3], [1]], [3, 6]), 2)
        self.told(row_of([[1], [-2], [1]], [1, 2]), row_of([[-2, -1], [1, 1]], [1]), 2)

    def test_sums_of_fibonacci(self):
        fibonacci = row_of(FIBONACCI, [0, 1])
        self.told(row_ahead(fibonacci, 2), row_plus(fibonacci, row_ahead(fibonacci, 1)), 2)
        self.told(row_sums(power_row((2, 1))), row_plus(row_scaled(power_row((2, 1)), (2, 1)), poly_row([-1])), 2)

    def test_products(self):
        both = row_times(power_row((2, 3)), power_row((-3, 5)))
        self.told(both, power_row((-2, 5)), 1)
        self.told(row_times(poly_row([0, 1]), poly_row([3])), poly_row([0, 3]), 2)

    def test_long_numbers(self):
        one = row_times(power_row((SIXTY, 7)), power_row((7, THREE_HUNDRED)))
        self.told(one, power_row((SIXTY, THREE_HUNDRED)), 1)

    def test_with_first_ones_up_to_the_reach(self):
        self.told(row_of(JUMP_AT_3, [5, 5, 5, 5]), poly_row([5]), 4)
        self.told(row_of(JUMP_AT_60, [5] * 61), poly_row([5]), 61)
        # n! and 60 to the power n are told apart by n - 59.
        self.told(row_scaled(row_of(FACTORIALS, [1]), (0, 1)), row_scaled(power_row((60, 1)), (0, 1)), 62)


class Unlike(unittest.TestCase):
    def told(self, one, other, place):
        answer = held_against(one, other)
        self.assertEqual(answer, ("unlike", place, one.at(place), other.at(place)))
        self.assertNotEqual(answer[2], answer[3])
        self.assertEqual([type(answer), type(answer[1]), type(answer[2]), type(answer[3])], [tuple, int, tuple, tuple])
        self.assertEqual(held_against(other, one), ("unlike", place, answer[3], answer[2]))
        self.assertEqual([one.at(n) for n in range(place)], [other.at(n) for n in range(place)])

    def test_at_place_0(self):
        self.assertEqual(held_against(poly_row([5]), poly_row([2])), ("unlike", 0, (5, 1), (2, 1)))
        self.told(row_of(FIBONACCI, [0, 1]), row_of(FIBONACCI, [1, 1]), 0)
        self.told(power_row((2, 1)), poly_row([]), 0)

    def test_at_a_later_place(self):
        self.assertEqual(held_against(power_row((2, 1)), power_row((1, 3))), ("unlike", 1, (2, 1), (1, 3)))
        self.told(row_of(FIBONACCI, [0, 1]), row_of(FIBONACCI, [0, 2]), 1)
        self.told(row_of(FIBONACCI, [0, 1]), poly_row([0, 1]), 2)

    def test_behind_the_first_ones_of_both(self):
        # Both begin with 1 and 2, and need no more.
        self.told(power_row((2, 1)), poly_row([1, 1]), 2)
        self.told(row_of(FACTORIALS, [1]), power_row((1, 1)), 2)
        self.told(row_of([[-1], [], [1]], [1, 2]), row_of([[2], [-3], [1]], [1, 2]), 2)
        self.told(row_of([[-1], [], [], [1]], [1, 1, 1]), row_of([[-2], [], [1]], [1, 1]), 2)

    def test_at_the_last_place_that_the_gap_needs(self):
        # The value at place 3 is free by the rule, that at place 60 too.
        self.told(row_of(JUMP_AT_3, [5, 5, 5, -1]), poly_row([5]), 3)
        self.told(row_of(JUMP_AT_60, [1] * 60 + [Fraction(-3, 2)]), poly_row([1]), 60)
        self.told(row_of([[-59, 1]], [0] * 59 + [SIXTY]), poly_row([]), 59)

    def test_all_pairs(self):
        for p, first, q, second in small_pairs():
            one, other = row_of(p, first), row_of(q, second)
            unlike = [n for n in range(70) if one.at(n) != other.at(n)]
            if unlike:
                self.told(one, other, unlike[0])
            else:
                self.assertEqual(held_against(one, other)[0], "same")

    def test_rows_that_go_round(self):
        for two in product((0, 1), repeat=2):
            for three in product((0, 1), repeat=3):
                one, other = row_of([[-1], [], [1]], two), row_of([[-1], [], [], [1]], three)
                unlike = [n for n in range(6) if two[n % 2] != three[n % 3]]
                if unlike:
                    self.told(one, other, unlike[0])
                else:
                    self.assertEqual(held_against(one, other), ("same", 4))


class Refused(unittest.TestCase):
    def test_too_great_by_the_width(self):
        one, other = row_of([[-1], [3], [-3], [1]], [0, 1, 4]), row_of(HARMONIC, [0, 1])
        for function in (row_gap, held_against):
            for left, right in ((one, one), (one, other), (other, one)):
                refused(self, TooGreat, function, left, right)

    def test_too_great_by_the_reach(self):
        factorials = row_of(FACTORIALS, [1])
        for x in (61, 62, SIXTY):
            for function in (row_gap, held_against):
                refused(self, TooGreat, function, factorials, power_row((x, 1)))
                refused(self, TooGreat, function, power_row((x, 1)), factorials)
        self.assertEqual(held_against(factorials, power_row((60, 1))), ("unlike", 1, (1, 1), (60, 1)))


class Unchanged(unittest.TestCase):
    def test_rows_handed_in_and_told(self):
        rule, first = copy.deepcopy(FIBONACCI), pairs_of([0, 1])
        one, other = Row(rule, first), power_row((2, 1))
        gap = row_gap(one, other)
        wanted = [gap.at(n) for n in range(20)]
        answer = held_against(one, other)
        rule[0][0] = 9
        first.append((8, 1))
        for row in (one, other, gap):
            told = row.told()
            told[0][0].append(3)
            told[1].clear()
        one.at(200)
        self.assertEqual(one.told(), (FIBONACCI, pairs_of([0, 1])))
        self.assertEqual(other.told(), ([[-2], [1]], pairs_of([1])))
        self.assertEqual([gap.at(n) for n in range(20)], wanted)
        self.assertEqual([row_gap(one, other).at(n) for n in range(20)], wanted)
        self.assertEqual(held_against(one, other), answer)


if __name__ == "__main__":
    unittest.main()
