"""Point 23: polynomials of two unknowns, as dicts from the powers to the numbers."""

import copy
import unittest
from math import comb

from helpers import SIXTY, THREE_HUNDRED, any_number, dice
from plain_terms import bare, plain_pair_moved, plain_pair_plus, plain_pair_times, plain_pair_value
from sumcraft.pairs import by_k, degree_in_k, pair_moved, pair_of_form, pair_plus, pair_times, pair_value

N_PLUS_K = {(1, 0): 1, (0, 1): 1}
N_LESS_K = {(1, 0): 1, (0, 1): -1}
SOME = [
    {}, {(0, 0): 1}, {(0, 0): -7}, {(1, 0): 1}, {(0, 1): 1}, {(0, 1): -1}, N_PLUS_K, N_LESS_K,
    {(2, 3): 5, (0, 0): -1}, {(3, 0): 2, (0, 3): -2}, {(60, 60): 1}, {(60, 0): SIXTY, (0, 60): -THREE_HUNDRED},
    {(1, 1): THREE_HUNDRED, (0, 0): -THREE_HUNDRED},
]
MOVES = [(0, 0), (1, 0), (0, 1), (-1, 0), (0, -1), (2, -3), (-5, 7), (SIXTY, 0), (0, -SIXTY), (-THREE_HUNDRED, 3)]
PLACES = [(0, 0), (1, 0), (0, 1), (1, 1), (-1, 2), (3, -2), (10, 400), (SIXTY, -1), (-THREE_HUNDRED, THREE_HUNDRED)]


def any_pair(rng, many, power, figures):
    """A dict of many numbers at the most, none of them 0."""
    answer = {}
    for _ in range(many):
        answer[(rng.randrange(power + 1), rng.randrange(power + 1))] = any_number(rng, figures) or 1
    return answer


class Pairs(unittest.TestCase):
    def told(self, answer, wanted):
        """That the told dict is the wanted one, and of the kinds told."""
        self.assertIs(type(answer), dict)
        self.assertTrue(answer == wanted)
        for powers, number in answer.items():
            self.assertEqual([type(powers), type(powers[0]), type(powers[1]), type(number)], [tuple, int, int, int])
            self.assertEqual(len(powers), 2)
            self.assertNotEqual(number, 0)

    def some_of_chance(self, seed):
        rng = dice(seed)
        pairs = [any_pair(rng, rng.randrange(8), 4, 1) for _ in range(12)]
        return pairs + [any_pair(rng, 9, 9, figures) for figures in (1, 60, 300)]


class Plus(Pairs):
    def test_ordinary(self):
        self.told(pair_plus(N_PLUS_K, N_LESS_K), {(1, 0): 2})
        self.told(pair_plus({(2, 0): 3}, {(2, 0): 4, (0, 2): 5}), {(2, 0): 7, (0, 2): 5})

    def test_nought(self):
        self.told(pair_plus({}, {}), {})
        for one in SOME:
            self.told(pair_plus(one, {}), one)
            self.told(pair_plus({}, one), one)
            self.told(pair_plus(one, {powers: -number for powers, number in one.items()}), {})

    def test_all_pairs(self):
        for one in SOME + self.some_of_chance(1):
            for other in SOME + self.some_of_chance(2):
                self.told(pair_plus(one, other), plain_pair_plus(one, other))

    def test_three_hundred_numbers(self):
        rng = dice(3)
        for figures in (1, 300):
            one, other = any_pair(rng, 300, 60, figures), any_pair(rng, 300, 60, figures)
            self.told(pair_plus(one, other), plain_pair_plus(one, other))


class Times(Pairs):
    def test_ordinary(self):
        self.told(pair_times(N_PLUS_K, N_LESS_K), {(2, 0): 1, (0, 2): -1})
        self.told(pair_times(N_PLUS_K, N_PLUS_K), {(2, 0): 1, (1, 1): 2, (0, 2): 1})
        self.told(pair_times({(1, 2): 3}, {(4, 0): -5}), {(5, 2): -15})

    def test_nought(self):
        self.told(pair_times({}, {}), {})
        for one in SOME:
            self.told(pair_times(one, {}), {})
            self.told(pair_times({}, one), {})
            self.told(pair_times(one, {(0, 0): 1}), one)

    def test_all_pairs(self):
        for one in SOME + self.some_of_chance(4):
            for other in SOME + self.some_of_chance(5):
                self.told(pair_times(one, other), plain_pair_times(one, other))

    def test_three_hundred_numbers(self):
        rng = dice(6)
        one, other = any_pair(rng, 300, 60, 300), any_pair(rng, 300, 60, 300)
        answer = pair_times(one, other)
        for n, k in ((2, -3), (1, 1), (0, 5), (10 ** 40, 10 ** 90)):
            wanted = plain_pair_value(one, n, k) * plain_pair_value(other, n, k)
            self.assertTrue(plain_pair_value(answer, n, k) == wanted)
        self.assertNotIn(0, answer.values())

    def test_what_was_told_may_be_handed_in(self):
        answer = {(0, 0): 1}
        for _ in range(80):
            answer = pair_times(answer, N_PLUS_K)
        self.told(answer, {(i, 80 - i): comb(80, i) for i in range(81)})
        self.assertEqual(pair_value(answer, 1, 1), 2 ** 80)
        self.assertEqual(degree_in_k(answer), 80)
        self.told(pair_moved(answer, 5, -5), answer)


class Moved(Pairs):
    def test_ordinary(self):
        self.told(pair_moved({(1, 0): 1}, 3, 9), {(1, 0): 1, (0, 0): 3})
        self.told(pair_moved({(0, 1): 1}, 3, 9), {(0, 1): 1, (0, 0): 9})
        self.told(pair_moved({(2, 0): 1}, -1, 0), {(2, 0): 1, (1, 0): -2, (0, 0): 1})
        self.told(pair_moved({(1, 1): 1}, 2, -3), {(1, 1): 1, (1, 0): -3, (0, 1): 2, (0, 0): -6})

    def test_numbers_that_come_to_0_are_left_out(self):
        self.told(pair_moved({(1, 0): 1, (0, 0): -3}, 3, 0), {(1, 0): 1})
        self.told(pair_moved(N_LESS_K, 4, 4), N_LESS_K)
        self.told(pair_moved({(0, 2): 1, (0, 1): 2, (0, 0): 1}, 0, -1), {(0, 2): 1})

    def test_by_0(self):
        for one in SOME:
            self.told(pair_moved(one, 0, 0), one)

    def test_nought(self):
        for a, b in MOVES:
            self.told(pair_moved({}, a, b), {})

    def test_all_moves(self):
        for one in SOME + self.some_of_chance(7):
            for a, b in MOVES:
                if len(one) > 1 or max(one, default=(0, 0)) != (60, 60) or abs(a) + abs(b) < 20:
                    self.told(pair_moved(one, a, b), plain_pair_moved(one, a, b))

    def test_and_back(self):
        rng = dice(8)
        one = any_pair(rng, 300, 60, 300)
        for a, b in ((1, 0), (-2, 3), (7, -11)):
            self.told(pair_moved(pair_moved(one, a, b), -a, -b), one)

    def test_values(self):
        for one in self.some_of_chance(9):
            for a, b in MOVES:
                moved = pair_moved(one, a, b)
                for n, k in PLACES:
                    self.assertTrue(plain_pair_value(moved, n, k) == plain_pair_value(one, n + a, k + b))


class OfAForm(Pairs):
    def test_ordinary(self):
        self.told(pair_of_form((2, -3, 5)), {(1, 0): 2, (0, 1): -3, (0, 0): 5})
        self.told(pair_of_form((1, 1, 0)), N_PLUS_K)

    def test_noughts_are_left_out(self):
        self.told(pair_of_form((0, 0, 0)), {})
        self.told(pair_of_form((1, 0, 0)), {(1, 0): 1})
        self.told(pair_of_form((0, 1, 0)), {(0, 1): 1})
        self.told(pair_of_form((0, 0, 1)), {(0, 0): 1})
        self.told(pair_of_form((0, -2, 7)), {(0, 1): -2, (0, 0): 7})

    def test_long_numbers(self):
        for form in ((SIXTY, -SIXTY, 0), (-THREE_HUNDRED, 0, THREE_HUNDRED)):
            self.told(pair_of_form(form), bare({(1, 0): form[0], (0, 1): form[1], (0, 0): form[2]}))

    def test_values(self):
        for form in ((2, -3, 5), (0, 1, 0), (0, 0, 0), (-1, 0, SIXTY)):
            for n, k in PLACES:
                self.assertEqual(pair_value(pair_of_form(form), n, k), form[0] * n + form[1] * k + form[2])


class Value(Pairs):
    def test_ordinary(self):
        self.assertEqual(pair_value({(2, 1): 3, (0, 0): -4}, 5, 2), 146)
        self.assertEqual(pair_value({(2, 1): 3, (0, 0): -4}, 2, 5), 56)
        self.assertEqual(pair_value({(0, 0): 9}, 0, 0), 9)
        self.assertEqual(pair_value({(1, 0): 9}, 0, 4), 0)

    def test_nought(self):
        for n, k in PLACES:
            self.assertEqual(pair_value({}, n, k), 0)

    def test_all_places(self):
        for one in SOME + self.some_of_chance(10):
            for n, k in PLACES:
                value = pair_value(one, n, k)
                self.assertIs(type(value), int)
                self.assertTrue(value == plain_pair_value(one, n, k))

    def test_three_hundred_numbers(self):
        one = any_pair(dice(11), 300, 60, 300)
        for n, k in PLACES:
            self.assertTrue(pair_value(one, n, k) == plain_pair_value(one, n, k))


class ByPowersOfK(Pairs):
    def test_ordinary(self):
        self.assertEqual(by_k({(2, 1): 3, (0, 1): 5, (1, 0): -4}), [[0, -4], [5, 0, 3]])
        self.assertEqual(by_k(N_PLUS_K), [[0, 1], [1]])
        self.assertEqual(by_k({(0, 0): -7}), [[-7]])
        self.assertEqual(by_k({(3, 0): 1}), [[0, 0, 0, 1]])

    def test_powers_of_k_that_lack(self):
        self.assertEqual(by_k({(0, 3): 2}), [[], [], [], [2]])
        self.assertEqual(by_k({(1, 1): 2, (4, 3): 6}), [[], [0, 2], [], [0, 0, 0, 0, 6]])

    def test_nought(self):
        self.assertEqual(by_k({}), [])
        self.assertEqual(degree_in_k({}), 0)

    def test_degree(self):
        self.assertEqual([degree_in_k({(0, 0): 5}), degree_in_k({(9, 0): 5}), degree_in_k({(0, 9): 5})], [0, 0, 9])
        self.assertEqual(degree_in_k({(60, 2): 1, (0, 60): -1, (3, 3): 7}), 60)

    def test_all(self):
        for one in SOME + self.some_of_chance(12) + [any_pair(dice(13), 300, 60, 300)]:
            degree = degree_in_k(one)
            self.assertIs(type(degree), int)
            self.assertEqual(degree, max([j for i, j in one], default=0))
            told = by_k(one)
            self.assertEqual(len(told), degree + 1 if one else 0)
            self.assertEqual([type(told)] + [type(poly) for poly in told], [list] * (len(told) + 1))
            self.assertTrue(all(not poly or poly[-1] != 0 for poly in told))
            again = {(i, j): number for j, poly in enumerate(told) for i, number in enumerate(poly) if number != 0}
            self.assertTrue(again == one)


class Unchanged(unittest.TestCase):
    FUNCTIONS = [
        lambda one: pair_plus(one, {}), lambda one: pair_plus({}, one), lambda one: pair_plus(one, one),
        lambda one: pair_plus(one, {(0, 0): 4}), lambda one: pair_times(one, {(0, 0): 1}),
        lambda one: pair_times(one, one), lambda one: pair_moved(one, 0, 0), lambda one: pair_moved(one, 1, -1),
    ]

    def test_handed_in_and_told(self):
        for function in self.FUNCTIONS:
            for one in SOME[:10]:
                mine = dict(one)
                told = function(mine)
                self.assertIsNot(told, mine)
                self.assertEqual(mine, one)
                wanted = dict(told)
                told[(0, 0)] = 99
                told[(5, 5)] = 77
                self.assertEqual(mine, one)
                again = function(mine)
                self.assertEqual(again, wanted)
                mine[(7, 7)] = 3
                mine.pop((0, 0), None)
                self.assertEqual(again, wanted)

    def test_form(self):
        told = pair_of_form((1, 2, 3))
        told.clear()
        self.assertEqual(pair_of_form((1, 2, 3)), {(1, 0): 1, (0, 1): 2, (0, 0): 3})

    def test_by_k(self):
        for one in SOME:
            mine = dict(one)
            told = by_k(mine)
            wanted = copy.deepcopy(told)
            for poly in told:
                poly.append(5)
            told.append([1])
            self.assertTrue(by_k(mine) == wanted and mine == one)

    def test_told_polynomials_are_lists_apart(self):
        told = by_k({(0, 4): 1})
        told[0].append(3)
        self.assertEqual(told, [[3], [], [], [], [1]])

    def test_value_and_degree_change_nothing(self):
        for one in SOME:
            mine = dict(one)
            pair_value(mine, 3, 4)
            degree_in_k(mine)
            self.assertTrue(mine == one)


if __name__ == "__main__":
    unittest.main()
