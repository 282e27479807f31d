"""Points 18 and 19: rules out of rules, thinned polynomials, and what is too great ahead of all work."""

import copy
import unittest
from fractions import Fraction
from operator import add, mul

from helpers import (
    NO_RULES, SIXTY, THREE_HUNDRED, any_poly, dice, plain_coords, plain_plus, plain_relation, plain_row,
    plain_rule_sum, plain_shifted, plain_thinned, plain_times, refused,
)
from sumcraft.errors import NoRule, TooGreat
from sumcraft.joins import plus_rule, summed_rule, thinned, times_rule

FIBONACCI = [[-1], [-1], [1]]
FACTORIALS = [[-1, -1], [1]]
PARTS_OF_FACTORIALS = [[-1], [1, 1]]
HARMONIC = [[1, 1], [-3, -2], [2, 1]]
# Of the values of a row of this rule the one at place 3 may be any number, whatever those ahead are.
JUMP_AT_3 = [[2, -1], [-2, 1]]


def new_rule(vectors, weights):
    found = plain_relation(vectors)
    return plain_thinned([plain_times(poly, weight) for poly, weight in zip(found, weights)])


def plain_plus_rule(p, q):
    vectors, weights = [], []
    for j in range(len(p) + len(q) - 1):
        (u, d), (x, e) = plain_coords(p, j), plain_coords(q, j)
        vectors.append([plain_times(poly, e) for poly in u] + [plain_times(poly, d) for poly in x])
        weights.append(plain_times(d, e))
    return new_rule(vectors, weights)


def plain_times_rule(p, q):
    vectors, weights = [], []
    for j in range((len(p) - 1) * (len(q) - 1) + 1):
        (u, d), (x, e) = plain_coords(p, j), plain_coords(q, j)
        vectors.append([plain_times(one, other) for one in u for other in x])
        weights.append(plain_times(d, e))
    return new_rule(vectors, weights)


def plain_summed_rule(p):
    order = len(p) - 1
    vectors, weights = [[[1]] + [[]] * order], [[1]]
    for j in range(1, order + 2):
        factor = plain_shifted(p[-1], j - order) if j >= order else [1]
        vector = [plain_times(poly, factor) for poly in vectors[-1]]
        u = plain_coords(p, j)[0]
        vectors.append(vector[:1] + [plain_plus(poly, top) for poly, top in zip(vector[1:], u)])
        weights.append(plain_times(weights[-1], factor))
    return new_rule(vectors, weights)


def any_rule(rng, order, size, figures):
    """A rule whose longest polynomial has exactly size numbers."""
    rule = [any_poly(rng, rng.randrange(size + 1), figures) for _ in range(order)]
    rule.append(any_poly(rng, rng.randrange(1, size + 1), figures))
    place = rng.randrange(order + 1)
    rule[place] = any_poly(rng, size, figures)
    return rule


def longest(width):
    """The greatest number of numbers that is not too great for the width."""
    return 32 // (width * width)


def sizes_for(width, most):
    return list(range(1, min(most, longest(width)) + 1 if width else most + 1))


def is_rule(case, rule):
    case.assertIs(type(rule), list)
    for poly in rule:
        case.assertIs(type(poly), list)
        for number in poly:
            case.assertIs(type(number), int)
        case.assertTrue(not poly or poly[-1] != 0)
    case.assertGreater(rule[-1][-1], 0)


SOME_RULES = [
    [[1]], [[-3]], [[0, 1]], [[-2, 1]], [[2, 0, 4]], [[-1], [1]], [[1], [1]], [[-4], [2]], [[], [1]], [[], [-6]],
    FACTORIALS, PARTS_OF_FACTORIALS, [[-2, -4], [1, 1]], JUMP_AT_3, [[3, 1], [-5, 0, 1]], FIBONACCI, HARMONIC,
    [[1], [], [1]], [[], [], [3]], [[], [1], [-1]], [[0, 2], [], [-4, -2]], [[1], [-2], [1]], [[-1], [3], [-3], [1]],
    [[], [], [], [2]], [[4], [], [], [-1]],
]


class NoRules(unittest.TestCase):
    def test_as_the_first_and_as_the_second(self):
        for rule in NO_RULES:
            refused(self, NoRule, summed_rule, rule)
            for join in (plus_rule, times_rule):
                for other in SOME_RULES[:16:3]:
                    refused(self, NoRule, join, rule, other)
                    refused(self, NoRule, join, other, rule)
                for other in NO_RULES:
                    refused(self, NoRule, join, rule, other)

    def test_ahead_of_too_great(self):
        long = [[1] * 33, [1] * 33, [1]]
        for rule in NO_RULES + [[[1] * 33, [1, 0]], [[1]] * 9 + [[]], [[1] * 40 + [0], [1], [1]], [[0]] + [[1]] * 9]:
            for join in (plus_rule, times_rule):
                refused(self, NoRule, join, rule, long)
                refused(self, NoRule, join, long, rule)
        for rule in ([[1] * 40 + [0], [1]], [[1]] * 9 + [[]], [[0]] + [[1]] * 9, [[1], [1, 0]] + [[1] * 9] * 9):
            refused(self, NoRule, summed_rule, rule)


class TooGreatAheadOfAllWork(unittest.TestCase):
    BOUNDS = [(1, 32), (2, 8), (3, 3), (4, 2), (5, 1)]

    def rules(self, order, size):
        """Rules of this order in which one polynomial has size numbers, all others one."""
        for place in range(order + 1):
            yield [[i + 2] if i != place else [i + 1] * size for i in range(order + 1)]

    def both(self, join, one_order, other_order, width):
        most = longest(width)
        for rule in self.rules(one_order, most):
            for other in self.rules(other_order, 1):
                is_rule(self, join(rule, other))
                is_rule(self, join(other, rule))
        for size in (most + 1, most + 2, 300):
            for rule in self.rules(one_order, size):
                for other in self.rules(other_order, 1):
                    refused(self, TooGreat, join, rule, other)
                    refused(self, TooGreat, join, other, rule)

    def test_the_bounds(self):
        self.assertEqual([(width, longest(width)) for width in range(1, 6)], self.BOUNDS)

    def test_plus(self):
        for width in range(1, 6):
            for order in range(width + 1):
                self.both(plus_rule, order, width - order, width)

    def test_times(self):
        for one, other in ((1, 1), (1, 2), (2, 1), (1, 3), (3, 1), (2, 2), (1, 4), (4, 1), (1, 5), (5, 1)):
            self.both(times_rule, one, other, one * other)

    def test_summed(self):
        for order in range(5):
            most = longest(order + 1)
            for rule in self.rules(order, most):
                is_rule(self, summed_rule(rule))
            for size in (most + 1, most + 2, 300):
                for rule in self.rules(order, size):
                    refused(self, TooGreat, summed_rule, rule)

    def test_width_6_and_more_is_always_too_great(self):
        for one, other in ((3, 3), (0, 6), (6, 0), (2, 4), (299, 299)):
            refused(self, TooGreat, plus_rule, [[1]] * (one + 1), [[1]] * (other + 1))
        for one, other in ((2, 3), (3, 2), (1, 6), (6, 1), (3, 3), (299, 299)):
            refused(self, TooGreat, times_rule, [[1]] * (one + 1), [[1]] * (other + 1))
        for order in (5, 6, 299):
            refused(self, TooGreat, summed_rule, [[1]] * (order + 1))
        for size in (1, 300):
            for figures in (1, 300):
                rule = any_rule(dice(1), 299, size, figures)
                refused(self, TooGreat, plus_rule, rule, [[1]])
                refused(self, TooGreat, times_rule, [[1], [1]], rule)
                refused(self, TooGreat, summed_rule, rule)

    def test_width_0_is_never_too_great(self):
        rng = dice(2)
        for figures in (1, 300):
            one, other = any_rule(rng, 0, 300, figures), any_rule(rng, 0, 300, figures)
            self.assertEqual(len(plus_rule(one, other)), 1)
            self.assertEqual(len(times_rule(one, other)), 1)
            other = any_rule(rng, 299, 300, figures)
            self.assertEqual(len(times_rule(one, other)), 1)
            self.assertEqual(times_rule(one, other), times_rule(other, one))
        self.assertEqual(times_rule([[1]], [[1]] * 300), [[1]])

    def test_noughts_count_as_none(self):
        self.assertEqual(plus_rule([[], [], [1]], [[], [], [], [2]]), [[], [], [], [1]])
        refused(self, TooGreat, plus_rule, [[], [], [1]], [[], [], [], [0, 2]])

    def test_no_reach_is_asked_for(self):
        self.assertEqual(plus_rule([[-THREE_HUNDRED, 1]], [[1]]), [[-THREE_HUNDRED, 1]])
        self.assertEqual(times_rule([[1], [-61, 1]], [[1], [1]]), [[-1], [-61, 1]])
        self.assertEqual(summed_rule([[-99, 1]]), [[98, -1], [-98, 1]])


class Known(unittest.TestCase):
    def test_plus(self):
        self.assertEqual(plus_rule(FIBONACCI, FIBONACCI), FIBONACCI)
        self.assertEqual(plus_rule([[-2], [1]], [[-3], [1]]), [[6], [-5], [1]])
        self.assertEqual(plus_rule([[-2], [1]], [[-2], [1]]), [[-2], [1]])
        self.assertEqual(plus_rule(FACTORIALS, [[-1], [1]]), [[1, 2, 1], [-1, -3, -1], [0, 1]])

    def test_times(self):
        self.assertEqual(times_rule([[-2], [1]], [[-3], [1]]), [[-6], [1]])
        self.assertEqual(times_rule(FACTORIALS, PARTS_OF_FACTORIALS), [[-1], [1]])
        self.assertEqual(times_rule(FIBONACCI, FIBONACCI), [[1], [-2], [-2], [1]])

    def test_summed(self):
        self.assertEqual(summed_rule(FIBONACCI), [[1], [], [-2], [1]])
        self.assertEqual(summed_rule([[-1], [1]]), [[1], [-2], [1]])
        self.assertEqual(summed_rule([[-2], [1]]), [[2], [-3], [1]])

    def test_order_0(self):
        self.assertEqual(plus_rule([[3]], [[5, 1]]), [[1]])
        self.assertEqual(plus_rule([[3]], [[-5, 1]]), [[-5, 1]])
        self.assertEqual(plus_rule([[0, -4]], [[0, 6]]), [[0, 0, 1]])
        self.assertEqual(times_rule([[0, -4]], [[0, 6]]), [[0, 0, 1]])
        self.assertEqual(times_rule([[0, -4]], FIBONACCI), [[0, 1]])
        self.assertEqual(times_rule(FIBONACCI, [[1, 1]]), [[1]])
        self.assertEqual(plus_rule([[1, 1]], FIBONACCI), FIBONACCI)
        self.assertEqual(plus_rule([[0, 1]], [[-1], [1]]), [[0, -1, -1], [0, 1, 1]])
        self.assertEqual(summed_rule([[7]]), [[-1], [1]])
        self.assertEqual(summed_rule([[0, 1]]), [[-1], [1]])
        self.assertEqual(summed_rule([[-1, 1]]), [[0, -1], [0, 1]])

    def test_a_relation_that_is_shorter_than_the_width(self):
        self.assertEqual(len(plus_rule(HARMONIC, HARMONIC)), 3)
        self.assertEqual(times_rule([[], [1]], FIBONACCI), [[], [1]])
        self.assertEqual(times_rule([[1], [], [1]], [[1], [], [1]]), [[-1], [], [1]])


class AsTheDocumentTells(unittest.TestCase):
    def of_two(self, rng, join, plain_join, width_of):
        """Holds rules of two rules, of all orders from 0 to 3 that are not too great, against the slow way."""
        for one in range(4):
            for other in range(4):
                width = width_of(one, other)
                if width > 5:
                    continue
                for size in sizes_for(width, 4) * 6:
                    p, q = any_rule(rng, one, size, 1), any_rule(rng, other, rng.randrange(1, size + 1), 1)
                    self.assertEqual(join(p, q), plain_join(p, q), (p, q))
                    self.assertEqual(join(q, p), plain_join(q, p), (q, p))

    def test_plus(self):
        self.of_two(dice(3), plus_rule, plain_plus_rule, add)

    def test_times(self):
        self.of_two(dice(4), times_rule, plain_times_rule, mul)

    def test_summed(self):
        rng = dice(5)
        for order in range(5):
            for size in sizes_for(order + 1, 6):
                for _ in range(8):
                    p = any_rule(rng, order, size, 1)
                    self.assertEqual(summed_rule(p), plain_summed_rule(p), p)

    def test_all_pairs_of_some_rules(self):
        for p in SOME_RULES:
            if len(p) * len(p) * max(map(len, p)) <= 32:
                self.assertEqual(summed_rule(p), plain_summed_rule(p), p)
            for q in SOME_RULES:
                size = max(map(len, p + q))
                if (len(p) + len(q) - 2) ** 2 * size <= 32:
                    self.assertEqual(plus_rule(p, q), plain_plus_rule(p, q), (p, q))
                if ((len(p) - 1) * (len(q) - 1)) ** 2 * size <= 32:
                    self.assertEqual(times_rule(p, q), plain_times_rule(p, q), (p, q))

    def test_long_numbers(self):
        rng = dice(6)
        for figures in (60, 300):
            for one, other, size in ((0, 0, 4), (0, 1, 3), (1, 1, 2), (1, 2, 1), (2, 1, 1), (2, 2, 1), (3, 2, 1)):
                p, q = any_rule(rng, one, size, figures), any_rule(rng, other, size, figures)
                self.assertTrue(plus_rule(p, q) == plain_plus_rule(p, q), (one, other))
            for one, other, size in ((0, 3, 4), (1, 1, 4), (1, 2, 2), (2, 1, 2), (2, 2, 1), (1, 3, 1)):
                p, q = any_rule(rng, one, size, figures), any_rule(rng, other, size, figures)
                self.assertTrue(times_rule(p, q) == plain_times_rule(p, q), (one, other))
            for order, size in ((0, 5), (1, 4), (2, 2), (3, 1), (4, 1)):
                p = any_rule(rng, order, size, figures)
                self.assertTrue(summed_rule(p) == plain_summed_rule(p), order)

    def test_rules_that_were_told(self):
        rule = [[-SIXTY], [3]]
        for step in range(2, 7):
            rule = times_rule(rule, [[-SIXTY, -1], [3]])
            self.assertEqual(len(rule), 2)
            self.assertEqual(rule[0][0], -(SIXTY ** step))
            self.assertEqual(rule[1], [3 ** step])
        told = summed_rule(PARTS_OF_FACTORIALS)
        self.assertEqual(plus_rule(told, [[-1], [1]]), plain_plus_rule(told, [[-1], [1]]))


class ValuesKeepTheNewRule(unittest.TestCase):
    ROWS = [
        ([[3]], []), ([[0, 1]], [7]), ([[-2, 1]], [0, 0, 5]), ([[-1], [1]], [Fraction(2, 3)]), ([[], [1]], [4]),
        (FACTORIALS, [1]), (PARTS_OF_FACTORIALS, [Fraction(1, 2)]), (JUMP_AT_3, [5, 5, 5, -1]),
        (FIBONACCI, [0, 1]), (HARMONIC, [0, 1]), ([[1], [-2], [1]], [3, 5]), ([[-2, -4], [1, 1]], [1]),
        ([[4], [], [], [-1]], [1, 2, 3]), ([[-1], [3], [-3], [1]], [0, 1, 4]),
    ]

    def kept(self, rule, values):
        for n in range(len(values) - len(rule) + 1):
            self.assertEqual(plain_rule_sum(rule, values, n), 0, (rule, n))

    def test_plus_and_times(self):
        for p, first in self.ROWS:
            one = plain_row(p, first, 30)
            for q, second in self.ROWS:
                other = plain_row(q, second, 30)
                size = max(map(len, p + q))
                if (len(p) + len(q) - 2) ** 2 * size <= 32:
                    self.kept(plus_rule(p, q), [x + y for x, y in zip(one, other)])
                if ((len(p) - 1) * (len(q) - 1)) ** 2 * size <= 32:
                    self.kept(times_rule(p, q), [x * y for x, y in zip(one, other)])

    def test_summed(self):
        for p, first in self.ROWS:
            if len(p) ** 2 * max(map(len, p)) <= 32:
                values = plain_row(p, first, 30)
                self.kept(summed_rule(p), [sum(values[:n + 1]) for n in range(30)])


class Thinned(unittest.TestCase):
    def told(self, polys, wanted):
        self.assertEqual(thinned(polys), wanted)
        self.assertEqual(plain_thinned(polys), wanted)

    def test_a_common_that_is_clear_from_0_on(self):
        self.told([[1, 1], [2, 3, 1]], [[1], [2, 1]])
        self.told([[2, 2], [4, 6, 2]], [[1], [2, 1]])
        self.told([[1, 0, 1], [-1, 0, -1], [3, 0, 3]], [[1], [-1], [3]])
        self.told([[4, 4, 1], [8, 8, 2]], [[1], [2]])
        self.told([[5]], [[1]])
        self.told([[3, 1]], [[1]])

    def test_a_common_that_is_not_clear_from_0_on(self):
        self.told([[0, 1], [0, 0, 1]], [[0, 1], [0, 0, 1]])
        self.told([[0, 2], [0, 0, 4]], [[0, 1], [0, 0, 2]])
        self.told([[-3, 3], [-6, 0, 6]], [[-1, 1], [-2, 0, 2]])
        self.told([[-59, 1]], [[-59, 1]])
        self.told([[1, -1, 1], [2, -2, 2]], [[1, -1, 1], [2, -2, 2]])
        self.told([[4, -4, 4], [6, -6, 6]], [[2, -2, 2], [3, -3, 3]])

    def test_a_common_with_a_clear_factor_and_one_that_is_not(self):
        # (n + 1) (n - 2) is not clear, so not even n + 1 is cancelled.
        self.told([[-2, -1, 1]], [[-2, -1, 1]])
        self.told([[-6, -3, 3], [0, -6, -3, 3]], [[-2, -1, 1], [0, -2, -1, 1]])
        self.told([[0, 1, 1], [0, 2, 2]], [[0, 1, 1], [0, 2, 2]])
        # n * n - n + 1 times n + 1 is n * n * n + 1, which is clear.
        self.told([[1, 0, 0, 1], [3, 0, 0, 3]], [[1], [3]])

    def test_a_number_alone_in_common(self):
        self.told([[2], [4]], [[1], [2]])
        self.told([[0, 6], [9]], [[0, 2], [3]])
        self.told([[0, 1], [1]], [[0, 1], [1]])
        self.told([[SIXTY, 2 * SIXTY], [3 * SIXTY]], [[1, 2], [3]])
        self.told([[THREE_HUNDRED], [THREE_HUNDRED, THREE_HUNDRED]], [[1], [1, 1]])

    def test_noughts_among_them(self):
        self.told([[], [2]], [[], [1]])
        self.told([[], [0, 4], []], [[], [0, 1], []])
        self.told([[3, 3], [], [6, 6]], [[1], [], [2]])

    def test_nought_as_the_last_one_changes_no_sign(self):
        self.told([[-2], []], [[-1], []])
        self.told([[2], []], [[1], []])
        self.told([[-1, -1], [2, 2], []], [[-1], [2], []])
        self.told([[0, -3], [], []], [[0, -1], [], []])

    def test_signs(self):
        self.told([[1], [-1]], [[-1], [1]])
        self.told([[-1], [1]], [[-1], [1]])
        self.told([[-1], [-1]], [[1], [1]])
        self.told([[1, -1]], [[-1, 1]])
        self.told([[4, 0, -4], [0, -2, 2]], [[2, 0, -2], [0, -1, 1]])
        self.told([[2, 2], [-4, -4]], [[-1], [2]])
        self.told([[-5], [3, -1]], [[5], [-3, 1]])
        self.told([[-5], [-3, 1]], [[-5], [-3, 1]])

    def test_agrees_with_the_slow_way(self):
        rng = dice(7)
        for shared in ([1], [6], [-4], [1, 1], [-2, 1], [3, 2, 4], [2, 0, -6], [0, 3], [SIXTY, 1], [-SIXTY, 1]):
            for many in range(1, 5):
                for _ in range(6):
                    polys = [plain_times(shared, any_poly(rng, rng.randrange(4), 1)) for _ in range(many)]
                    if any(polys):
                        self.told(polys, plain_thinned(polys))

    def test_three_hundred_polynomials(self):
        polys = [[(i + 1) * THREE_HUNDRED] * 3 for i in range(300)]
        self.assertTrue(thinned(polys) == [[i + 1] for i in range(300)])


class Unchanged(unittest.TestCase):
    def hold(self, function, handed):
        before = copy.deepcopy(handed)
        told = function(*handed)
        self.assertEqual(handed, before)
        wanted = copy.deepcopy(told)
        for poly in told:
            poly.append(77)
        told.append([5])
        self.assertEqual(handed, before)
        again = function(*handed)
        self.assertEqual(again, wanted)
        for rule in handed:
            for poly in rule:
                if isinstance(poly, list):
                    poly.append(3)
            rule.append(9)
        self.assertEqual(again, wanted)

    def test_two_rules(self):
        for join in (plus_rule, times_rule):
            for p, q in (([[3]], [[0, 1]]), (FIBONACCI, FACTORIALS), ([[], [1]], [[1], [1]]), ([[1]], HARMONIC)):
                self.hold(join, [copy.deepcopy(p), copy.deepcopy(q)])

    def test_the_same_rule_twice(self):
        for join in (plus_rule, times_rule):
            for p in ([[3]], FIBONACCI, FACTORIALS, [[], [1]]):
                mine = copy.deepcopy(p)
                wanted = join(copy.deepcopy(p), copy.deepcopy(p))
                self.assertEqual(join(mine, mine), wanted)
                self.assertEqual(mine, p)

    def test_one_rule(self):
        for p in ([[3]], [[0, 1]], FIBONACCI, HARMONIC, [[], [1]]):
            self.hold(summed_rule, [copy.deepcopy(p)])

    def test_thinned(self):
        for polys in ([[1]], [[], [1], [1, 1]], [[2], [4]], [[-1], [-1]], [[1], []], [[0, 1], [0, 1]]):
            self.hold(thinned, [copy.deepcopy(polys)])

    def test_told_polynomials_are_lists_apart(self):
        shared = [1, 1]
        for told in (thinned([shared, shared, shared]), plus_rule([[], [], [1]], [[], [], [1]]), thinned([[], [], [1]])):
            told[0].append(4)
            self.assertNotEqual(told[0], told[1])


if __name__ == "__main__":
    unittest.main()
