"""Points 10, 11 and 12: rules, what they need, values that keep them and values carried on by them."""

import unittest
from fractions import Fraction

from helpers import (
    NO_RULES, SIXTY, THREE_HUNDRED, any_number, any_poly, dice, pairs_of, plain_row, plain_rule_sum, refused,
)
from sumcraft.errors import NoPlace, NoRule, NotKept, TooFew, TooGreat
from sumcraft.rules import carried_on, keeps, need_of, order_of

FIBONACCI = [[-1], [-1], [1]]
FACTORIALS = [[-1, -1], [1]]
PARTS_OF_FACTORIALS = [[-1], [1, 1]]
# (n - 59) a(n + 1) = (n - 59) a(n): at place 60 the row may begin anew.
JUMP_AT_60 = [[59, -1], [-59, 1]]


def any_fraction(rng, figures):
    return Fraction(any_number(rng, figures), abs(any_number(rng, figures)) + 1)


class NoRules(unittest.TestCase):
    def test_refused_ahead_of_all_else(self):
        for rule in NO_RULES:
            with self.subTest(rule=rule):
                refused(self, NoRule, order_of, rule)
                refused(self, NoRule, need_of, rule)
                for n in (-1, 0, 1, 5, THREE_HUNDRED):
                    refused(self, NoRule, keeps, rule, [], n)
                    refused(self, NoRule, keeps, rule, [(1, 1), (1, 1), (1, 1)], n)
                for many in (0, 1, 461):
                    refused(self, NoRule, carried_on, rule, [], many)
                    refused(self, NoRule, carried_on, rule, [(1, 1), (2, 1), (4, 1)], many)

    def test_ahead_of_too_great(self):
        for rule in ([[1, 0], [-60, 1]], [[0], [-THREE_HUNDRED, 1]], [[1], [0], [-99, 1]]):
            refused(self, NoRule, need_of, rule)
            refused(self, NoRule, carried_on, rule, [], 0)


class OrderAndNeed(unittest.TestCase):
    def told(self, rule, order, need):
        self.assertEqual((order_of(rule), need_of(rule)), (order, need), rule)
        self.assertIs(type(order_of(rule)), int)
        self.assertIs(type(need_of(rule)), int)

    def test_ordinary(self):
        self.told(FIBONACCI, 2, 2)
        self.told(FACTORIALS, 1, 1)
        self.told(PARTS_OF_FACTORIALS, 1, 1)
        self.told([[1], [2], [3], [0, 1]], 3, 4)

    def test_order_0(self):
        self.told([[1]], 0, 0)
        self.told([[-7, -1]], 0, 0)
        self.told([[0, 1]], 0, 1)
        self.told([[-5, 1]], 0, 6)

    def test_nought_may_stand_ahead_of_the_last(self):
        self.told([[], [1]], 1, 1)
        self.told([[], [], [], [-3, 1]], 3, 7)

    def test_the_last_polynomial_alone_counts(self):
        self.told([[-60, 1], [1]], 1, 1)
        self.told([[-THREE_HUNDRED, 1], [0, -1], [1, 1]], 2, 2)

    def test_signs_alone_count_too(self):
        self.told([[1], [1, -1, 1]], 1, 2)

    def test_all_reaches_up_to_60(self):
        for root in range(60):
            self.told([[1], [2], [-root, 1]], 2, root + 3)
            self.told([[1], [2], [root, -1]], 2, root + 3)

    def test_a_reach_above_60_is_refused(self):
        for last in ([-60, 1], [60, -1], [-121, 2], [-SIXTY, 1], [THREE_HUNDRED, -1], [4901, -140, 1]):
            for rule in ([last], [[1], last], [[], [3], last]):
                refused(self, TooGreat, need_of, rule)
                self.assertEqual(order_of(rule), len(rule) - 1)

    def test_three_hundred_polynomials(self):
        self.told([[i + 1] for i in range(299)] + [[-59, 1]], 299, 359)

    def test_numbers_of_three_hundred_figures(self):
        self.told([[THREE_HUNDRED], [-THREE_HUNDRED, -7, -THREE_HUNDRED]], 1, 1)
        self.told([[THREE_HUNDRED], [-5 * THREE_HUNDRED, THREE_HUNDRED]], 1, 7)


class Keeps(unittest.TestCase):
    def test_ordinary(self):
        values = pairs_of([0, 1, 1, 2, 3, 6, 9, 15])
        wanted = [True, True, True, False, True, True]
        self.assertEqual([keeps(FIBONACCI, values, n) for n in range(6)], wanted)

    def test_tells_truths(self):
        for value in ((1, 1), (2, 1)):
            self.assertIs(type(keeps([[-1], [1]], [(1, 1), value], 0)), bool)

    def test_fractions(self):
        values = pairs_of([1, 1, Fraction(1, 2), Fraction(1, 6), Fraction(1, 24), Fraction(1, 121)])
        self.assertEqual([keeps(PARTS_OF_FACTORIALS, values, n) for n in range(5)], [True] * 4 + [False])

    def test_the_polynomials_are_taken_at_the_place(self):
        values = pairs_of([1, 1, 2, 6, 24])
        self.assertTrue(all(keeps(FACTORIALS, values, n) for n in range(4)))
        self.assertFalse(keeps([[-1], [1]], values, 1))
        self.assertTrue(keeps([[-1], [1]], values, 0))

    def test_order_0(self):
        values = pairs_of([0, 5, 0, 0, 3])
        self.assertEqual([keeps([[-1, 1]], values, n) for n in range(5)], [True, True, True, True, False])

    def test_a_last_polynomial_of_0_at_the_place(self):
        rule = [[-1], [-2, 1]]
        self.assertTrue(keeps(rule, pairs_of([0, 0, 0, 77]), 2))
        self.assertFalse(keeps(rule, pairs_of([0, 0, 1, 0]), 2))

    def test_noughts_in_the_rule(self):
        values = pairs_of([4, 9, 4, Fraction(1, 3), 4])
        self.assertEqual([keeps([[-1], [], [1]], values, n) for n in range(3)], [True, False, True])

    def test_no_place(self):
        values = pairs_of([1, 1, 2, 3])
        for n in (-1, -2, -3, -4, -THREE_HUNDRED, 2, 3, 4, 5, THREE_HUNDRED, 10 ** 9000, -10 ** 9000):
            refused(self, NoPlace, keeps, FIBONACCI, values, n)
        self.assertTrue(keeps(FIBONACCI, values, 0))
        self.assertTrue(keeps(FIBONACCI, values, 1))
        refused(self, NoPlace, keeps, FIBONACCI, [], 0)
        refused(self, NoPlace, keeps, FIBONACCI, values[:2], 0)
        refused(self, NoPlace, keeps, [[1]], [], 0)
        refused(self, NoPlace, keeps, [[1]], [(0, 1)], 1)
        self.assertTrue(keeps([[1]], [(0, 1)], 0))

    def test_no_reach_is_asked_for(self):
        rule = [[60, -1], [-60, 1]]
        self.assertTrue(keeps(rule, pairs_of([2, 2, 3]), 0))
        self.assertFalse(keeps(rule, pairs_of([2, 2, 3]), 1))

    def test_behind_a_change_in_the_list_handed_in(self):
        values = pairs_of([1, 1, 2, 3, 5, 8])
        self.assertEqual([keeps(FIBONACCI, values, n) for n in range(4)], [True] * 4)
        values[3] = (4, 1)
        self.assertEqual([keeps(FIBONACCI, values, n) for n in range(4)], [True, False, False, False])
        values[3] = (3, 1)
        self.assertEqual([keeps(FIBONACCI, values, n) for n in range(4)], [True] * 4)
        values.pop()
        refused(self, NoPlace, keeps, FIBONACCI, values, 3)
        values.append((7, 1))
        self.assertFalse(keeps(FIBONACCI, values, 3))

    def test_behind_a_change_in_the_rule_handed_in(self):
        rule, values = [[-2], [1]], pairs_of([1, 2, 4])
        self.assertTrue(keeps(rule, values, 0))
        rule[0][0] = -3
        self.assertFalse(keeps(rule, values, 0))
        rule[1].append(0)
        refused(self, NoRule, keeps, rule, values, 0)

    def test_agrees_with_the_slow_way(self):
        rng = dice(1)
        for figures in (1, 60, 300):
            for order in range(5):
                rule = [any_poly(rng, rng.randrange(1, 4), figures) for _ in range(order + 1)]
                values = [any_fraction(rng, figures) for _ in range(order + 6)]
                for n in range(6):
                    self.assertEqual(keeps(rule, pairs_of(values), n), plain_rule_sum(rule, values, n) == 0)

    def test_what_was_told_may_be_asked(self):
        values = carried_on(PARTS_OF_FACTORIALS, [(1, 1)], 461)
        for n in (0, 1, 200, 399, 459):
            self.assertTrue(keeps(PARTS_OF_FACTORIALS, values, n))
        refused(self, NoPlace, keeps, PARTS_OF_FACTORIALS, values, 460)


class CarriedOn(unittest.TestCase):
    def told(self, rule, first, many):
        answer, wanted = carried_on(rule, pairs_of(first), many), pairs_of(plain_row(rule, first, many))
        # The places alone: to show how lists of such long numbers differ would take minutes.
        self.assertEqual([n for n in range(many) if answer[n] != wanted[n]], [])
        self.assertEqual(len(answer), many)
        self.assertIs(type(answer), list)
        for value in answer:
            self.assertEqual([type(value), type(value[0]), type(value[1])], [tuple, int, int])

    def test_ordinary(self):
        self.assertEqual(carried_on(FIBONACCI, [(0, 1), (1, 1)], 8), pairs_of([0, 1, 1, 2, 3, 5, 8, 13]))
        self.assertEqual(carried_on(FACTORIALS, [(1, 2)], 5), pairs_of([Fraction(1, 2), Fraction(1, 2), 1, 3, 12]))
        self.assertEqual(carried_on([[1], [2]], [(1, 1)], 3), pairs_of([1, Fraction(-1, 2), Fraction(1, 4)]))
        self.assertEqual(carried_on([[1], [-2]], [(1, 1)], 3), pairs_of([1, Fraction(1, 2), Fraction(1, 4)]))

    def test_none_and_fewer_than_the_first_ones(self):
        first = pairs_of([1, 1, 2, 3, 5])
        for many in range(6):
            self.assertEqual(carried_on(FIBONACCI, first, many), first[:many])
        self.assertEqual(carried_on(FIBONACCI, first[:2], 0), [])
        self.assertEqual(carried_on([[1]], [], 0), [])

    def test_more_first_ones_than_needed(self):
        first = pairs_of([1, 1, 2, 3, 5])
        for size in range(2, 6):
            self.assertEqual(carried_on(FIBONACCI, first[:size], 7), pairs_of([1, 1, 2, 3, 5, 8, 13]))

    def test_order_0(self):
        self.assertEqual(carried_on([[1]], [], 3), pairs_of([0, 0, 0]))
        self.assertEqual(carried_on([[0, 1]], [(5, 7)], 3), pairs_of([Fraction(5, 7), 0, 0]))
        self.assertEqual(carried_on([[-2, 1]], pairs_of([0, 0, 9]), 5), pairs_of([0, 0, 9, 0, 0]))

    def test_noughts_on_the_way(self):
        self.told([[-1], [], [1]], [0, Fraction(2, 3)], 9)
        self.told([[], [1]], [4], 5)
        self.told([[], [], [2]], [4, 5], 5)

    def test_461_values(self):
        self.told(FIBONACCI, [0, 1], 461)
        self.told(FACTORIALS, [Fraction(-3, 7)], 461)
        self.told(PARTS_OF_FACTORIALS, [Fraction(5, 6)], 461)
        self.told([[1, 3, 3, 1], [-117, -231, -153, -34], [8, 12, 6, 1]], [0, 6], 461)
        self.assertEqual(carried_on([[-1], [1]], [(2, 3)], 461), [(2, 3)] * 461)

    def test_a_root_at_every_place_up_to_59(self):
        for root in range(60):
            rule = [[root, -1], [-root, 1]]
            first = [2] * (root + 1) + [Fraction(-1, 3)]
            self.told(rule, first, 461 if root in (0, 1, 58, 59) else root + 5)
            refused(self, TooFew, carried_on, rule, pairs_of(first[:-1]), 0)

    def test_a_root_at_59_with_all_noughts_ahead_of_it(self):
        # (n - 59) a(n + 1) = a(n)
        self.told([[-1], [-59, 1]], [0] * 60 + [7], 461)
        error = refused(self, NotKept, carried_on, [[-1], [-59, 1]], pairs_of([0] * 59 + [1, 7]), 461)
        self.assertEqual(error.place, 58)

    def test_order_2_with_a_root_at_59(self):
        rule = [[59, -1], [59, -1], [-59, 1]]
        first = plain_row(FIBONACCI, [1, 1], 61) + [Fraction(5, 2)]
        self.told(rule, first, 461)

    def test_of_any_rules(self):
        rng = dice(2)
        for figures in (1, 2, 60):
            for order in range(6):
                rule = [any_poly(rng, rng.randrange(0, 4), figures) for _ in range(order)]
                rule.append([abs(number) + 1 for number in any_poly(rng, rng.randrange(1, 4), figures)])
                self.told(rule, [any_fraction(rng, figures) for _ in range(order)], 30)

    def test_numbers_of_three_hundred_figures(self):
        rng = dice(3)
        self.told([[-THREE_HUNDRED], [THREE_HUNDRED + 2]], [1], 461)
        self.told([any_poly(rng, 2, 300), any_poly(rng, 2, 300), [THREE_HUNDRED, 10 ** 299]], [1, 2], 20)
        self.told([[THREE_HUNDRED], [1], [1]], [Fraction(1, THREE_HUNDRED), THREE_HUNDRED], 100)

    def test_three_hundred_polynomials(self):
        rng = dice(4)
        rule = [any_poly(rng, 2, 2) for _ in range(299)] + [[1, 2]]
        self.told(rule, [rng.randrange(-9, 10) for _ in range(299)], 461)

    def test_what_was_told_may_be_handed_in(self):
        told = carried_on(JUMP_AT_60, pairs_of([1] * 60 + [Fraction(2, 9)]), 461)
        self.assertEqual(carried_on(JUMP_AT_60, told, 461), told)
        self.assertEqual(carried_on(JUMP_AT_60, told[:100], 461), told)


class RefusalsInTheirOrder(unittest.TestCase):
    def test_too_great_ahead_of_too_few_and_not_kept(self):
        for first in ([], pairs_of([1]), pairs_of([1, 2, 3]), pairs_of([1] * 70)):
            for many in (0, 461):
                refused(self, TooGreat, carried_on, [[-1], [-60, 1]], first, many)

    def test_too_few_ahead_of_not_kept(self):
        rule = [[-1], [-3, 1]]
        for size in range(5):
            refused(self, TooFew, carried_on, rule, pairs_of([1] * size), 0)
            refused(self, TooFew, carried_on, rule, pairs_of([0] * size), 3)
        self.assertEqual(refused(self, NotKept, carried_on, rule, pairs_of([1] * 5), 0).place, 0)
        self.assertEqual(carried_on(rule, pairs_of([0] * 5), 3), pairs_of([0] * 3))

    def test_too_few(self):
        refused(self, TooFew, carried_on, FIBONACCI, [], 0)
        refused(self, TooFew, carried_on, FIBONACCI, [(1, 1)], 1)
        refused(self, TooFew, carried_on, [[0, 1]], [], 0)

    def test_not_kept_has_the_first_place(self):
        good = pairs_of([1, 1, 2, 3, 5, 8, 13, 21])
        for size in range(3, 9):
            for wrong in range(size):
                first = good[:size]
                first[wrong] = (99, 7)
                for many in (0, size, 20):
                    error = refused(self, NotKept, carried_on, FIBONACCI, first, many)
                    self.assertEqual(error.place, max(wrong - 2, 0))
                    self.assertIs(type(error.place), int)

    def test_not_kept_at_the_last_place_that_can_be_asked(self):
        first = carried_on(FIBONACCI, pairs_of([1, 1]), 300)
        first[-1] = (1, 2)
        self.assertEqual(refused(self, NotKept, carried_on, FIBONACCI, first, 0).place, 297)

    def test_not_kept_at_a_root_and_by_order_0(self):
        self.assertEqual(refused(self, NotKept, carried_on, [[1], [-2, 1]], pairs_of([2, 1, 1, 5]), 9).place, 2)
        self.assertEqual(refused(self, NotKept, carried_on, [[-1, 1]], pairs_of([0, 8, 0, 1]), 9).place, 3)


if __name__ == "__main__":
    unittest.main()
