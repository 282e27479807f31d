"""Point 17: coords of a number, for each rule."""

import copy
import unittest

from helpers import (
    NO_RULES, SIXTY, THREE_HUNDRED, any_poly, dice, plain_coords, plain_row, plain_value, refused,
)
from sumcraft.coords import coords
from sumcraft.errors import NoRule

FIBONACCI = [[-1], [-1], [1]]


def some_rules():
    rng = dice(1)
    rules = [FIBONACCI, [[-1, -1], [1]], [[-1], [1, 1]], [[2], [2]], [[-59, 1]], [[0, 1]], [[3]], [[], [1]]]
    rules += [[[], [], [0, 1]], [[0, 2], [], [4], [6, 0, 2]], [[60, -1], [1, 1], [-60, 1]]]
    for figures in (1, 60, 300):
        for order in range(5):
            rule = [any_poly(rng, rng.randrange(0, 3), figures) for _ in range(order)]
            rules.append(rule + [any_poly(rng, rng.randrange(1, 3), figures)])
    return rules


class Coords(unittest.TestCase):
    def test_far_below_the_order(self):
        self.assertEqual(coords(FIBONACCI, 0), ([[1], []], [1]))
        self.assertEqual(coords(FIBONACCI, 1), ([[], [1]], [1]))
        rule = [[i + 1, 1] for i in range(14)]
        for far in range(13):
            self.assertEqual(coords(rule, far), ([[1] if i == far else [] for i in range(13)], [1]))

    def test_far_at_the_order(self):
        self.assertEqual(coords(FIBONACCI, 2), ([[1], [1]], [1]))
        self.assertEqual(coords([[-1], [1, 1]], 1), ([[1]], [1, 1]))
        self.assertEqual(coords([[5, 2], [0, 7], [1, 0, 3]], 2), ([[-5, -2], [0, -7]], [1, 0, 3]))
        self.assertEqual(coords([[i + 1] for i in range(13)], 12), ([[-i - 1] for i in range(12)], [13]))

    def test_far_above_the_order(self):
        self.assertEqual(coords(FIBONACCI, 3), ([[1], [2]], [1]))
        self.assertEqual(coords(FIBONACCI, 12), ([[89], [144]], [1]))
        self.assertEqual(coords([[-1, -1], [1]], 3), ([[6, 11, 6, 1]], [1]))
        self.assertEqual(coords([[-1], [1, 1]], 3), ([[1]], [6, 11, 6, 1]))

    def test_order_0(self):
        self.assertEqual(coords([[3]], 0), ([], [3]))
        self.assertEqual(coords([[3]], 2), ([], [27]))
        self.assertEqual(coords([[0, 1]], 0), ([], [0, 1]))
        self.assertEqual(coords([[0, 1]], 2), ([], [0, 2, 3, 1]))
        self.assertEqual(coords([[3]], 12), ([], [3 ** 13]))

    def test_nothing_is_cancelled(self):
        self.assertEqual(coords([[2], [2]], 1), ([[-2]], [2]))
        self.assertEqual(coords([[2], [2]], 2), ([[4]], [4]))
        self.assertEqual(coords([[0, 2], [0, 2]], 2), ([[0, 4, 4]], [0, 4, 4]))
        self.assertEqual(coords([[-2], [-2], [2]], 3), ([[4], [8]], [4]))
        self.assertEqual(coords([[], [4]], 2), ([[]], [16]))

    def test_signs_stay(self):
        self.assertEqual(coords([[1], [-1]], 1), ([[-1]], [-1]))
        self.assertEqual(coords([[1], [-1]], 2), ([[1]], [1]))
        self.assertEqual(coords([[1], [-1]], 3), ([[-1]], [-1]))

    def test_as_the_document_tells_them(self):
        for rule in some_rules():
            for far in range(13):
                self.assertEqual(coords(rule, far), plain_coords(rule, far), (rule, far))

    def test_kinds(self):
        for far in (0, 1, 2, 5):
            told = coords(FIBONACCI, far)
            self.assertEqual([type(told), type(told[0]), type(told[1])], [tuple, list, list])
            self.assertEqual([type(poly) for poly in told[0]], [list, list])

    def test_they_lead_to_the_value_far_ahead(self):
        for rule in ([[-1, -1], [1]], FIBONACCI, [[1, 3, 3, 1], [-117, -231, -153, -34], [8, 12, 6, 1]], [[7], [1, 2]]):
            values = plain_row(rule, [1, 5][:len(rule) - 1], 40)
            for far in range(13):
                u, d = coords(rule, far)
                for n in range(20):
                    told = sum(plain_value(poly, n) * values[n + i] for i, poly in enumerate(u))
                    self.assertEqual(plain_value(d, n) * values[n + far], told)

    def test_no_reach_is_asked_for(self):
        self.assertEqual(coords([[1], [-THREE_HUNDRED, 1]], 1), ([[-1]], [-THREE_HUNDRED, 1]))
        self.assertEqual(coords([[SIXTY], [-60, 1]], 1), ([[-SIXTY]], [-60, 1]))

    def test_no_rule_is_refused(self):
        for rule in NO_RULES:
            for far in range(13):
                refused(self, NoRule, coords, rule, far)


class Unchanged(unittest.TestCase):
    def test_rule_handed_in_and_lists_told(self):
        for rule in some_rules():
            mine = copy.deepcopy(rule)
            for far in range(7):
                told = coords(mine, far)
                wanted = copy.deepcopy(told)
                self.assertEqual(mine, rule)
                for poly in told[0] + [told[1]]:
                    poly.append(77)
                told[0].append([5])
                self.assertEqual(mine, rule)
                self.assertEqual(coords(mine, far), wanted)

    def test_told_polynomials_are_lists_apart(self):
        told = coords([[1], [], [], [], [1]], 1)
        told[0][0].append(3)
        self.assertEqual(told, ([[3], [1], [], []], [1]))

    def test_changes_of_the_rule_come_behind(self):
        rule = [[-1], [-1], [1]]
        told = coords(rule, 2)
        rule[0][0] = 9
        rule.append([1])
        self.assertEqual(told, ([[1], [1]], [1]))


if __name__ == "__main__":
    unittest.main()
