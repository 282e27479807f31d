"""Points 12 and 13: rows, what they refuse and in which order, and what they tell."""

import unittest
from fractions import Fraction

from helpers import NO_RULES, THREE_HUNDRED, any_poly, dice, pairs_of, plain_row, plain_rule_sum, refused
from sumcraft.errors import NoPlace, NoRule, NotKept, TooFew, TooGreat
from sumcraft.rows import Row
from sumcraft.rules import carried_on

FIBONACCI = [[-1], [-1], [1]]
APERY = [[1, 3, 3, 1], [-117, -231, -153, -34], [8, 12, 6, 1]]
JUMP_AT_60 = [[59, -1], [-59, 1]]

# Rules with first ones, just as many as they need.
ROWS = [
    ([[1]], []),
    ([[0, 1]], [Fraction(4, 3)]),
    ([[-2, 1]], [0, 0, 5]),
    ([[-1], [1]], [Fraction(-7, 2)]),
    ([[-1, -1], [1]], [1]),
    ([[-1], [1, 1]], [1]),
    (FIBONACCI, [0, 1]),
    (APERY, [1, 5]),
    (APERY, [0, 6]),
    ([[], [], [1]], [3, Fraction(1, 4)]),
    (JUMP_AT_60, [Fraction(1, 2)] * 60 + [-3]),
    ([[-1], [-59, 1]], [0] * 60 + [7]),
    ([[1], [1], [1], [2, 1, 1]], [1, 2, Fraction(3, 5)]),
]


class Refused(unittest.TestCase):
    def test_no_rule_first(self):
        for rule in NO_RULES + [[[1, 0], [-60, 1]]]:
            for first in ([], pairs_of([1]), pairs_of([1, 5, 1, 5])):
                refused(self, NoRule, Row, rule, first)

    def test_too_great_next(self):
        for rule in ([[-1], [-60, 1]], [[-THREE_HUNDRED, 1]], [[], [1], [121, -2]]):
            for first in ([], pairs_of([1]), pairs_of([1] * 100)):
                refused(self, TooGreat, Row, rule, first)

    def test_too_few_next(self):
        for rule, first in ROWS:
            for size in range(len(first)):
                refused(self, TooFew, Row, rule, pairs_of(first[:size]))
        for size in range(5):
            refused(self, TooFew, Row, [[-1], [-3, 1]], pairs_of([1] * size))

    def test_not_kept_last(self):
        self.assertEqual(refused(self, NotKept, Row, [[-1], [-3, 1]], pairs_of([1] * 5)).place, 0)
        self.assertEqual(refused(self, NotKept, Row, FIBONACCI, pairs_of([1, 1, 2, 4, 5])).place, 1)
        self.assertEqual(refused(self, NotKept, Row, FIBONACCI, pairs_of([1, 1, 2, 3, 6])).place, 2)
        self.assertEqual(refused(self, NotKept, Row, [[1]], pairs_of([0, 0, 1, 1])).place, 2)

    def test_not_kept_at_each_place(self):
        for rule, first in ROWS:
            values = plain_row(rule, first, len(first) + 4)
            for wrong in range(len(values)):
                changed = list(values)
                changed[wrong] += 1
                asked = range(len(values) - len(rule) + 1)
                failing = [n for n in asked if plain_rule_sum(rule, changed, n) != 0]
                if failing:
                    self.assertEqual(refused(self, NotKept, Row, rule, pairs_of(changed)).place, failing[0])
                else:
                    self.assertEqual(Row(rule, pairs_of(changed)).at(wrong), pairs_of(changed)[wrong])


class At(unittest.TestCase):
    def orders(self):
        """Orders in which all places may be asked."""
        shuffled = list(range(401))
        dice(1).shuffle(shuffled)
        return [range(401), range(400, -1, -1), shuffled, [400, 0, 400, 399, 1, 1]]

    def test_all_places_in_any_order(self):
        for rule, first in ROWS:
            wanted = pairs_of(plain_row(rule, first, 401))
            for places in self.orders():
                row = Row(rule, pairs_of(first))
                for n in places:
                    self.assertEqual(row.at(n), wanted[n])

    def test_kinds(self):
        row = Row(FIBONACCI, pairs_of([0, 1]))
        for n in (0, 1, 7, 400):
            value = row.at(n)
            self.assertEqual([type(value), type(value[0]), type(value[1])], [tuple, int, int])

    def test_no_place(self):
        for rule, first in ROWS:
            row = Row(rule, pairs_of(first))
            for n in (-1, -2, -400, -THREE_HUNDRED, 401, 402, 461, THREE_HUNDRED, 10 ** 9000, -10 ** 9000):
                refused(self, NoPlace, row.at, n)
            row.at(400)
            refused(self, NoPlace, row.at, 401)
            refused(self, NoPlace, row.at, -1)

    def test_no_place_behind_more_first_ones(self):
        row = Row(FIBONACCI, carried_on(FIBONACCI, pairs_of([0, 1]), 461))
        self.assertEqual(row.at(400), pairs_of(plain_row(FIBONACCI, [0, 1], 401))[400])
        refused(self, NoPlace, row.at, 401)

    def test_more_first_ones_make_the_same_row(self):
        for rule, first in ROWS:
            values = pairs_of(plain_row(rule, first, 401))
            for more in (1, 2, 9):
                row = Row(rule, values[:len(first) + more])
                self.assertEqual([row.at(n) for n in (0, 5, 77, 400)], [values[n] for n in (0, 5, 77, 400)])

    def test_numbers_of_three_hundred_figures(self):
        rng = dice(2)
        power = Row([[-THREE_HUNDRED], [THREE_HUNDRED + 2]], [(1, 1)])
        value = Fraction(THREE_HUNDRED, THREE_HUNDRED + 2)
        self.assertTrue(power.at(400) == (value.numerator ** 400, value.denominator ** 400))
        rule = [any_poly(rng, 3, 300), any_poly(rng, 3, 300), [THREE_HUNDRED, 1]]
        first = [Fraction(1, THREE_HUNDRED), Fraction(THREE_HUNDRED, 7)]
        row = Row(rule, pairs_of(first))
        self.assertEqual([row.at(n) for n in range(15)], pairs_of(plain_row(rule, first, 15)))


class Told(unittest.TestCase):
    def test_rule_and_as_many_values_as_it_needs(self):
        for rule, first in ROWS:
            told = Row(rule, pairs_of(first)).told()
            self.assertIs(type(told), tuple)
            self.assertEqual([type(told[0]), type(told[1])], [list, list])
            self.assertEqual(told, (rule, pairs_of(first)))

    def test_of_more_first_ones_the_needed_ones_alone(self):
        for rule, first in ROWS:
            for more in (1, 2, 9):
                row = Row(rule, pairs_of(plain_row(rule, first, len(first) + more)))
                self.assertEqual(row.told(), (rule, pairs_of(first)))

    def test_the_same_behind_any_asking(self):
        for rule, first in ROWS:
            row = Row(rule, pairs_of(first))
            row.at(100)
            self.assertEqual(row.told(), (rule, pairs_of(first)))
            self.assertEqual(row.told(), (rule, pairs_of(first)))

    def test_the_rule_as_it_was_handed_in(self):
        for rule in ([[-2, -2], [4, 4]], [[1], [-1]], [[-2], [-2]], [[0, 6], [3, 0, 3]]):
            self.assertEqual(Row(rule, pairs_of([5])).told(), (rule, pairs_of([5])))

    def test_what_is_told_leads_to_the_row(self):
        for rule, first in ROWS:
            row = Row(rule, pairs_of(plain_row(rule, first, len(first) + 3)))
            told = row.told()
            again = Row(told[0], told[1])
            for n in (0, 1, 60, 61, 62, 400):
                self.assertEqual(again.at(n), row.at(n))


class Unchanged(unittest.TestCase):
    def test_lists_that_were_handed_in(self):
        rule, first = [[-1], [-1], [1]], pairs_of([0, 1, 1])
        row = Row(rule, first)
        self.assertEqual((rule, first), ([[-1], [-1], [1]], pairs_of([0, 1, 1])))
        rule[0][0] = 5
        rule[2].append(7)
        rule.append([1])
        first[1] = (9, 1)
        first.append((4, 1))
        self.assertEqual(row.at(10), (55, 1))
        self.assertEqual(row.told(), (FIBONACCI, pairs_of([0, 1])))
        rule.clear()
        first.clear()
        self.assertEqual(row.at(12), (144, 1))
        self.assertEqual(row.told(), (FIBONACCI, pairs_of([0, 1])))

    def test_asking_changes_nothing_that_was_handed_in(self):
        rule, first = [[-1], [-1], [1]], pairs_of([0, 1])
        row = Row(rule, first)
        row.at(400)
        row.told()
        self.assertEqual((rule, first), (FIBONACCI, pairs_of([0, 1])))

    def test_lists_that_were_told(self):
        row = Row(FIBONACCI, pairs_of([0, 1]))
        told = row.told()
        told[0][0][0] = 8
        told[0][1].append(8)
        told[0].append([2])
        told[1][0] = (3, 1)
        told[1].append((3, 1))
        self.assertEqual(row.told(), (FIBONACCI, pairs_of([0, 1])))
        self.assertEqual([row.at(n) for n in range(6)], pairs_of([0, 1, 1, 2, 3, 5]))
        kept = row.told()
        row.at(300)
        self.assertEqual(kept, (FIBONACCI, pairs_of([0, 1])))

    def test_two_rows_of_the_same_lists(self):
        rule, first = [[-1], [-1], [1]], pairs_of([0, 1])
        one, other = Row(rule, first), Row(rule, first)
        one.at(50)
        one.told()[1].clear()
        self.assertEqual(other.told(), (FIBONACCI, pairs_of([0, 1])))
        self.assertEqual(other.at(50), one.at(50))

    def test_carried_on(self):
        rule, first = [[-1], [-1], [1]], pairs_of([0, 1])
        for many in (0, 1, 2, 5):
            told = carried_on(rule, first, many)
            self.assertIsNot(told, first)
            self.assertEqual((rule, first), (FIBONACCI, pairs_of([0, 1])))
            told.append((7, 7))
            self.assertEqual(carried_on(rule, first, many), pairs_of([0, 1, 1, 2, 3])[:many])


if __name__ == "__main__":
    unittest.main()
