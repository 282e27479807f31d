"""Point 2: nothing that is handed in is changed, and what is told is the asker's own."""

import copy
import unittest

from helpers import SIXTY, THREE_HUNDRED
from sumcraft.polys import poly_less, poly_plus, poly_times, poly_value, quotient, shifted, trimmed
from sumcraft.ratios import added, divided, multiplied, ratio, taken
from sumcraft.reaches import clear, common, common_of, reach

POLYS = [[], [1], [-4], [0, 1], [2, 4], [2, -4], [1, 2, 1], [-SIXTY, THREE_HUNDRED], [THREE_HUNDRED, 0, -1]]

ONE_POLY = [
    ("shifted by 0", lambda poly: shifted(poly, 0)),
    ("shifted by 5", lambda poly: shifted(poly, 5)),
    ("shifted by -5", lambda poly: shifted(poly, -5)),
    ("trimmed", trimmed),
    ("clear", lambda poly: clear(poly, 1)),
    ("poly_value", lambda poly: poly_value(poly, 3)),
]
TWO_POLYS = [
    ("poly_plus", poly_plus),
    ("poly_less", poly_less),
    ("poly_times", poly_times),
    ("common", common),
    ("quotient", lambda one, other: quotient(one, other) if other else None),
]


class OwnLists(unittest.TestCase):
    def hold(self, name, function, handed):
        """That the lists handed in stay, that a told list is another one, and that changing it changes no answer."""
        before = copy.deepcopy(handed)
        answer = function(*handed)
        self.assertEqual(handed, before, name)
        if isinstance(answer, list):
            for thing in handed:
                self.assertIsNot(answer, thing, name)
            wanted = list(answer)
            answer.append(77)
            answer[0] = 55
            self.assertEqual(handed, before, name)
            self.assertEqual(function(*handed), wanted, name)

    def test_functions_of_one_polynomial(self):
        for name, function in ONE_POLY:
            for poly in POLYS:
                self.hold(name, function, [list(poly)])

    def test_trimmed_of_lists_with_noughts(self):
        for numbers in ([0], [0, 0], [1, 0], [0, 1, 0, 0]):
            self.hold("trimmed", trimmed, [numbers])

    def test_functions_of_two_polynomials(self):
        for name, function in TWO_POLYS:
            for one in POLYS:
                for other in POLYS:
                    self.hold(name, function, [list(one), list(other)])

    def test_the_same_list_handed_in_twice(self):
        for name, function in TWO_POLYS:
            for poly in POLYS:
                mine = list(poly)
                self.hold(name, function, [mine, mine])

    def test_common_of(self):
        for polys in ([], [[]], [[2, 4]], [[], [2, 4]], [[2, 4], []], [[2, 4], [2, 4]], [[2, 4], [1, 2, 1]], POLYS):
            mine = copy.deepcopy(polys)
            answer = common_of(mine)
            self.assertEqual(mine, polys)
            self.assertTrue(all(answer is not poly for poly in mine) and answer is not mine)
            wanted = list(answer)
            answer.append(77)
            self.assertEqual(mine, polys)
            self.assertEqual(common_of(mine), wanted)

    def test_reach(self):
        poly = [-3, 1]
        self.assertEqual([reach(poly), reach(poly), poly], [4, 4, [-3, 1]])

    def test_changes_by_whoever_handed_a_list_in_come_behind(self):
        one, other = [1, 2], [3, 4]
        told = poly_plus(one, other)
        one.append(9)
        other[0] = 8
        self.assertEqual(told, [4, 6])
        self.assertEqual(poly_plus([1, 2], [3, 4]), [4, 6])


class Kinds(unittest.TestCase):
    def test_whole_numbers_told_are_no_truths(self):
        told = [poly_value([1], 0), poly_value([], 0), reach([1]), reach([0, 1])]
        told += poly_plus([1], [0, 1]) + common([1], [1]) + quotient([1], [1]) + shifted([0, 1], 1)
        told += list(ratio(1, 1)) + list(added((0, 1), (1, 1))) + list(taken((1, 1), (1, 1)))
        told += list(multiplied((1, 1), (0, 1))) + list(divided((1, 1), (1, 1)))
        self.assertEqual([type(number) for number in told], [int] * len(told))

    def test_clear_tells_truths(self):
        for poly in POLYS:
            for m in (0, 1, 2, THREE_HUNDRED):
                self.assertIs(type(clear(poly, m)), bool)


if __name__ == "__main__":
    unittest.main()
