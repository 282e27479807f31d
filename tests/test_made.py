"""Points 20, 21 and 3: rows out of rows, rows ahead and scaled, ready rows."""

import copy
import unittest
from fractions import Fraction
from math import comb
from operator import add, mul

from helpers import (
    SIXTY, THREE_HUNDRED, any_number, any_poly, dice, pairs_of, plain_row, plain_shifted, plain_times, plain_value,
    refused,
)
from sumcraft.errors import NoPlace, TooGreat
from sumcraft.joins import plus_rule, summed_rule, times_rule
from sumcraft.made import poly_row, power_row, row_ahead, row_plus, row_scaled, row_sums, row_times
from sumcraft.rows import Row
from sumcraft.rules import need_of

FIBONACCI = [[-1], [-1], [1]]
FACTORIALS = [[-1, -1], [1]]
JUMP_AT_3 = [[2, -1], [-2, 1]]
JUMP_AT_60 = [[59, -1], [-59, 1]]
HARMONIC = [[1, 1], [-3, -2], [2, 1]]

# Rules with first ones, just as many as they need.
ROWS = [
    ([[3]], []), ([[0, 1]], [Fraction(4, 3)]), ([[-2, 1]], [0, 0, 5]), ([[-1], [1]], [Fraction(2, 3)]),
    ([[], [1]], [4]), (FACTORIALS, [1]), ([[-1], [1, 1]], [Fraction(1, 2)]), (JUMP_AT_3, [5, 5, 5, -1]),
    (JUMP_AT_60, [Fraction(1, 2)] * 60 + [-3]), (FIBONACCI, [0, 1]), (FIBONACCI, [Fraction(1, 7), -2]),
    (HARMONIC, [0, 1]), ([[1], [-2], [1]], [3, 5]), ([[-2, -4], [1, 1]], [1]), ([[4], [], [], [-1]], [1, 2, 3]),
    ([[-1], [3], [-3], [1]], [0, 1, 4]), ([[-1], [-59, 1]], [0] * 60 + [7]),
]
FAR = 70
# Clear from 0 on, but without its factor n + 200, which is clear too, it is so from 70 on alone.
CLEAR_BY_A_FACTOR = plain_times([200, 1], [100000, -140, 1])


def row_of(rule, first):
    return Row(rule, pairs_of(first))


def fits(width, polys):
    return width * width * max(len(poly) for poly in polys) <= 32


class Made(unittest.TestCase):
    def hold(self, row, rule, values):
        """That the row has this rule and these values, and that what it tells leads to them alone."""
        self.assertIs(type(row), Row)
        wanted = pairs_of(values)
        need = need_of(rule)
        self.assertEqual(row.told(), (rule, wanted[:need]))
        self.assertEqual([row.at(n) for n in range(len(wanted))], wanted)
        again = Row(*row.told())
        self.assertEqual([again.at(n) for n in range(len(wanted))], wanted)

    def made(self, maker, one, other, rule, values):
        """The same of a row made of two rows, or that it is refused where the reach of its last polynomial is."""
        try:
            need_of(rule)
        except TooGreat:
            refused(self, TooGreat, maker, one, other)
        else:
            self.hold(maker(one, other), rule, list(values))

    def pairs_of_rows(self):
        for p, first in ROWS:
            for q, second in ROWS:
                yield p, first, q, second, plain_row(p, first, FAR), plain_row(q, second, FAR)


class Plus(Made):
    def test_ordinary(self):
        row = row_plus(row_of(FIBONACCI, [0, 1]), row_of([[-2], [1]], [1]))
        self.assertEqual([row.at(n) for n in range(6)], pairs_of([1, 3, 5, 10, 19, 37]))
        self.assertEqual(row.told(), ([[2], [1], [-3], [1]], pairs_of([1, 3, 5])))

    def test_values_rule_and_first_ones(self):
        for p, first, q, second, one, other in self.pairs_of_rows():
            if fits(len(p) + len(q) - 2, p + q):
                self.made(row_plus, row_of(p, first), row_of(q, second), plus_rule(p, q), map(add, one, other))

    def test_up_to_place_400(self):
        one, other = plain_row(FIBONACCI, [0, 1], 401), plain_row(HARMONIC, [0, 1], 401)
        row = row_plus(row_of(FIBONACCI, [0, 1]), row_of(HARMONIC, [0, 1]))
        for n in (400, 399, 61, 62, 200, 0):
            self.assertEqual(row.at(n), pairs_of([one[n] + other[n]])[0])
        for n in (-1, 401):
            refused(self, NoPlace, row.at, n)

    def test_a_row_and_itself(self):
        row = row_of(FIBONACCI, [0, 1])
        self.hold(row_plus(row, row), FIBONACCI, [2 * x for x in plain_row(FIBONACCI, [0, 1], 40)])

    def test_too_great_by_width(self):
        one, other = row_of(FIBONACCI, [0, 1]), row_of([[-1], [3], [-3], [1]], [0, 1, 4])
        row_plus(one, other)
        refused(self, TooGreat, row_plus, other, other)
        refused(self, TooGreat, row_plus, row_of(HARMONIC, [0, 1]), other)
        refused(self, TooGreat, row_plus, other, row_of(HARMONIC, [0, 1]))
        refused(self, TooGreat, row_plus, row_of([[1] * 9, [1]], [1]), row_of([[1], [1]], [1]))

    def test_too_great_by_the_reach(self):
        # n! and x to the power n are told apart by n + 1 - x, which is 0 at x - 1.
        factorials = row_of(FACTORIALS, [1])
        self.assertEqual(need_of(row_plus(factorials, row_of([[-60], [1]], [1])).told()[0]), 62)
        for x in (61, 62, 1000, SIXTY):
            refused(self, TooGreat, row_plus, factorials, row_of([[-x], [1]], [1]))
            refused(self, TooGreat, row_plus, row_of([[-x], [1]], [1]), factorials)


class Times(Made):
    def test_ordinary(self):
        row = row_times(row_of(FIBONACCI, [0, 1]), row_of(FIBONACCI, [0, 1]))
        self.assertEqual([row.at(n) for n in range(6)], pairs_of([0, 1, 1, 4, 9, 25]))
        self.assertEqual(row.told(), ([[1], [-2], [-2], [1]], pairs_of([0, 1, 1])))

    def test_values_rule_and_first_ones(self):
        for p, first, q, second, one, other in self.pairs_of_rows():
            if fits((len(p) - 1) * (len(q) - 1), p + q):
                self.made(row_times, row_of(p, first), row_of(q, second), times_rule(p, q), map(mul, one, other))

    def test_up_to_place_400(self):
        values = plain_row(HARMONIC, [0, 1], 401)
        row = row_times(row_of(HARMONIC, [0, 1]), row_of(HARMONIC, [0, 1]))
        for n in (400, 399, 61, 62, 200, 0):
            self.assertEqual(row.at(n), pairs_of([values[n] ** 2])[0])

    def test_too_great_by_width(self):
        one, other = row_of(FIBONACCI, [0, 1]), row_of([[-1], [3], [-3], [1]], [0, 1, 4])
        refused(self, TooGreat, row_times, one, other)
        refused(self, TooGreat, row_times, other, one)
        refused(self, TooGreat, row_times, row_of([[1] * 33, [1]], [1]), row_of([[1], [1]], [1]))
        row_times(row_of([[1] * 32, [1]], [1]), row_of([[1], [1]], [1]))

    def test_too_great_by_the_reach(self):
        row = row_of([[200, 1], CLEAR_BY_A_FACTOR], [1])
        for other in (power_row((1, 1)), power_row((-2, 3)), row_of(FACTORIALS, [1])):
            refused(self, TooGreat, row_times, row, other)
            refused(self, TooGreat, row_times, other, row)
        other = row_of([[1], CLEAR_BY_A_FACTOR], [1])
        self.assertEqual(row_times(other, power_row((-1, 1))).told(), ([[-1], CLEAR_BY_A_FACTOR], pairs_of([1])))


class Sums(Made):
    def test_ordinary(self):
        row = row_sums(row_of(FIBONACCI, [0, 1]))
        self.assertEqual([row.at(n) for n in range(7)], pairs_of([0, 1, 2, 4, 7, 12, 20]))
        self.assertEqual(row.told(), ([[1], [], [-2], [1]], pairs_of([0, 1, 2])))

    def test_values_rule_and_first_ones(self):
        for p, first in ROWS:
            if fits(len(p), p):
                values = plain_row(p, first, FAR)
                row = row_sums(row_of(p, first))
                self.hold(row, summed_rule(p), [sum(values[:n + 1]) for n in range(FAR)])

    def test_up_to_place_400(self):
        row = row_sums(row_of(FACTORIALS, [1]))
        values = plain_row(FACTORIALS, [1], 401)
        for n in (400, 399, 200, 0):
            self.assertEqual(row.at(n), (sum(values[:n + 1]), 1))

    def test_too_great_by_width(self):
        refused(self, TooGreat, row_sums, row_of([[-1], [], [], [], [], [1]], [1] * 5))
        refused(self, TooGreat, row_sums, row_of([[1] * 9, [1]], [1]))
        refused(self, TooGreat, row_sums, row_of([[1] * 33], []))
        row_sums(row_of([[1] * 8, [1]], [1]))
        row_sums(row_of([[1] * 32], []))

    def test_too_great_by_the_reach(self):
        refused(self, TooGreat, row_sums, row_of([[200, 1], CLEAR_BY_A_FACTOR], [1]))
        row = row_sums(row_of([[1], CLEAR_BY_A_FACTOR], [1]))
        self.assertEqual(row.told()[0][-1], plain_shifted(CLEAR_BY_A_FACTOR, 1))


class Ahead(Made):
    def test_ordinary(self):
        row = row_ahead(row_of(FIBONACCI, [0, 1]), 5)
        self.assertEqual([row.at(n) for n in range(4)], pairs_of([5, 8, 13, 21]))
        self.assertEqual(row.told(), (FIBONACCI, pairs_of([5, 8])))
        row = row_ahead(row_of(FACTORIALS, [1]), 3)
        self.assertEqual(row.told(), ([[-4, -1], [1]], pairs_of([6])))

    def test_by_each_number_from_0_to_60(self):
        for p, first in ROWS:
            values = plain_row(p, first, 140)
            row = row_of(p, first)
            for by in range(61):
                rule = [plain_shifted(poly, by) for poly in p]
                self.hold(row_ahead(row, by), rule, values[by:by + 66])

    def test_by_60_up_to_place_400(self):
        for p, first in (ROWS[8], (FIBONACCI, [0, 1]), (HARMONIC, [0, 1]), (FACTORIALS, [1])):
            values = plain_row(p, first, 461)
            row = row_ahead(row_of(p, first), 60)
            for n in (400, 0, 341, 340):
                self.assertEqual(row.at(n), pairs_of([values[n + 60]])[0])
            refused(self, NoPlace, row.at, 401)

    def test_ahead_of_a_row_ahead(self):
        row = row_of(HARMONIC, [0, 1])
        for _ in range(5):
            row = row_ahead(row, 60)
        self.assertEqual(row.told()[0], [plain_shifted(poly, 300) for poly in HARMONIC])
        self.assertEqual(row.at(100), pairs_of([plain_row(HARMONIC, [0, 1], 401)[400]])[0])

    def test_the_need_is_that_of_the_shifted_rule(self):
        row = row_of(JUMP_AT_60, [Fraction(1, 2)] * 60 + [-3])
        for by in (0, 1, 59, 60):
            self.assertEqual(len(row_ahead(row, by).told()[1]), 61 - by)
        self.assertEqual(row_ahead(row, 60).told(), ([[-1, -1], [1, 1]], pairs_of([-3])))

    def test_nothing_is_thinned(self):
        self.assertEqual(row_ahead(row_of([[2, 2], [-2, -2]], [1]), 1).told()[0], [[4, 2], [-4, -2]])

    def test_a_rule_of_300_polynomials(self):
        rule = [[-1]] + [[] for _ in range(298)] + [[-59, 1]]
        first = [0] * 60 + [Fraction(n, 3) for n in range(60, 299)] + [0] * 59 + [Fraction(5, 7)]
        row = row_of(rule, first)
        values = plain_row(rule, first, 460)
        for by in (0, 1, 60):
            ahead = row_ahead(row, by)
            self.assertEqual([ahead.at(n) for n in range(400)], pairs_of(values[by:by + 400]))

    def test_no_place(self):
        for p, first in ROWS:
            row = row_of(p, first)
            for by in (-1, -2, -60, 61, 62, 400, -SIXTY, THREE_HUNDRED, 10 ** 9000, -10 ** 9000):
                refused(self, NoPlace, row_ahead, row, by)


class Scaled(Made):
    def test_values_rule_and_first_ones(self):
        for p, first in ROWS:
            values = plain_row(p, first, FAR)
            for x in (0, 1, -1, 3, Fraction(-5, 7), SIXTY, Fraction(1, THREE_HUNDRED)):
                self.hold(row_scaled(row_of(p, first), pairs_of([x])[0]), p, [x * value for value in values])

    def test_by_0(self):
        row = row_scaled(row_of(FIBONACCI, [0, 1]), (0, 1))
        self.assertEqual(row.told(), (FIBONACCI, pairs_of([0, 0])))
        self.assertEqual(row.at(400), (0, 1))

    def test_lowest_terms(self):
        row = row_scaled(row_of([[-1], [1]], [Fraction(9, 4)]), (2, 3))
        self.assertEqual([row.at(0), row.at(400)], [(3, 2), (3, 2)])


class OfAPolynomial(Made):
    def test_nought(self):
        row = poly_row([])
        self.assertEqual(row.told(), ([[1]], []))
        self.assertEqual([row.at(n) for n in (0, 1, 400)], [(0, 1)] * 3)

    def test_known_rules(self):
        self.assertEqual(poly_row([7]).told(), ([[-1], [1]], pairs_of([7])))
        self.assertEqual(poly_row([0, 1]).told(), ([[1], [-2], [1]], pairs_of([0, 1])))
        self.assertEqual(poly_row([0, 0, 1]).told(), ([[-1], [3], [-3], [1]], pairs_of([0, 1, 4])))
        self.assertEqual(poly_row([1, 0, 0, 2]).told(), ([[1], [-4], [6], [-4], [1]], pairs_of([1, 3, 17, 55])))
        rule = [[-1], [5], [-10], [10], [-5], [1]]
        self.assertEqual(poly_row([0, 0, 0, 0, 1]).told(), (rule, pairs_of([0, 1, 16, 81, 256])))

    def test_values(self):
        rng = dice(1)
        for size in range(6):
            rule = [[(-1) ** (size - i) * comb(size, i)] for i in range(size + 1)]
            for figures in (1, 60, 300):
                for _ in range(5):
                    poly = any_poly(rng, size, figures)
                    self.hold(poly_row(poly), rule, [plain_value(poly, n) for n in range(30)])
                    self.assertEqual(poly_row(poly).at(400), (plain_value(poly, 400), 1))

    def test_too_great(self):
        for poly in ([0, 0, 0, 0, 0, 1], [1] * 6, [1] * 7, [THREE_HUNDRED] * 300, [-1] * 6):
            refused(self, TooGreat, poly_row, poly)


class OfAPower(Made):
    def test_of_0(self):
        row = power_row((0, 1))
        self.assertEqual(row.told(), ([[], [1]], pairs_of([1])))
        self.assertEqual([row.at(n) for n in (0, 1, 2, 400)], pairs_of([1, 0, 0, 0]))

    def test_known_rules(self):
        self.assertEqual(power_row((1, 1)).told(), ([[-1], [1]], pairs_of([1])))
        self.assertEqual(power_row((-1, 1)).told(), ([[1], [1]], pairs_of([1])))
        self.assertEqual(power_row((-2, 3)).told(), ([[2], [3]], pairs_of([1])))
        self.assertEqual(power_row((5, 2)).told(), ([[-5], [2]], pairs_of([1])))

    def test_values(self):
        rng = dice(2)
        fractions = [0, 1, -1, 2, -2, Fraction(1, 2), Fraction(-3, 4), SIXTY, Fraction(-SIXTY, THREE_HUNDRED)]
        fractions += [Fraction(any_number(rng, 3), rng.randrange(1, 1000)) for _ in range(9)]
        for x in fractions:
            top, bottom = pairs_of([x])[0]
            rule = [[-top] if top else [], [bottom]]
            self.hold(power_row((top, bottom)), rule, [Fraction(x) ** n for n in range(30)])
            self.assertTrue(power_row((top, bottom)).at(400) == (top ** 400, bottom ** 400))


class RowsOfRows(Made):
    def test_several_steps(self):
        fibonacci = row_of(FIBONACCI, [0, 1])
        one = row_plus(row_sums(power_row((2, 1))), poly_row([1]))
        self.assertEqual([one.at(n) for n in range(5)], pairs_of([2, 4, 8, 16, 32]))
        two = row_sums(row_times(fibonacci, row_ahead(fibonacci, 1)))
        values = plain_row(FIBONACCI, [0, 1], 42)
        self.assertEqual([two.at(n) for n in range(40)],
                         pairs_of([sum(values[i] * values[i + 1] for i in range(n + 1)) for n in range(40)]))
        three = row_scaled(row_ahead(row_plus(fibonacci, power_row((-1, 2))), 7), (3, 5))
        self.assertEqual([three.at(n) for n in range(30)],
                         pairs_of([Fraction(3, 5) * (values[n + 7] + Fraction(-1, 2) ** (n + 7)) for n in range(30)]))

    def test_many_steps(self):
        row = power_row((1, 1))
        for step in range(1, 12):
            row = row_times(row, power_row((-SIXTY, THREE_HUNDRED)))
            self.assertTrue(row.at(9) == pairs_of([Fraction(-SIXTY, THREE_HUNDRED) ** (9 * step)])[0])
            row = row_scaled(row_ahead(row, 0), (1, 1))


class Unchanged(unittest.TestCase):
    MAKERS = [
        lambda one: row_plus(one, power_row((2, 1))), lambda one: row_plus(power_row((2, 1)), one),
        lambda one: row_times(one, power_row((2, 1))), lambda one: row_times(one, one), row_sums,
        lambda one: row_ahead(one, 0), lambda one: row_ahead(one, 7), lambda one: row_scaled(one, (1, 1)),
        lambda one: row_scaled(one, (2, 5)),
    ]

    def test_the_rows_handed_in_stay(self):
        for maker in self.MAKERS:
            one = row_of(FIBONACCI, [0, 1])
            made = maker(one)
            self.assertIsNot(made, one)
            self.assertEqual(one.told(), (FIBONACCI, pairs_of([0, 1])))
            made.at(200)
            self.assertEqual(one.told(), (FIBONACCI, pairs_of([0, 1])))
            self.assertEqual([one.at(n) for n in range(9)], pairs_of([0, 1, 1, 2, 3, 5, 8, 13, 21]))

    def test_lists_of_the_rows_changed_by_the_asker(self):
        for maker in self.MAKERS:
            rule, first = copy.deepcopy(FIBONACCI), pairs_of([0, 1])
            one = Row(rule, first)
            made = maker(one)
            wanted = copy.deepcopy(made.told()), [made.at(n) for n in range(20)]
            rule[0][0] = 5
            rule.append([3])
            first[0] = (8, 1)
            for told in (one.told(), made.told()):
                told[0][0].append(4)
                told[0].append([1])
                told[1][0] = (6, 1)
                told[1].append((2, 1))
            one.at(300)
            self.assertEqual((made.told(), [made.at(n) for n in range(20)]), wanted)
            again = maker(one)
            self.assertEqual((again.told(), [again.at(n) for n in range(20)]), wanted)

    def test_the_polynomial_handed_in(self):
        poly = [1, 2, 3]
        row = poly_row(poly)
        self.assertEqual(poly, [1, 2, 3])
        poly[0] = 9
        poly.append(4)
        self.assertEqual([row.at(n) for n in range(4)], pairs_of([1, 6, 17, 34]))
        self.assertEqual(row.told(), ([[-1], [3], [-3], [1]], pairs_of([1, 6, 17])))


if __name__ == "__main__":
    unittest.main()
