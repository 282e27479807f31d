"""Points 27 and 28, and 3 as far as it speaks of the rule of a sum: ends, breadth, height, length, the rule and its q."""

import copy
import unittest
from fractions import Fraction

from helpers import SIXTY, dice, plain_common_of, plain_relation, plain_value, refused
from plain_terms import (
    any_choose, any_fraction, any_part, low_forms_of, plain_frame, plain_pair_moved, plain_pair_plus, plain_pair_times,
    plain_pair_value, plain_floor, plain_worth,
)
from sumcraft.errors import NoEnds, TooGreat
from sumcraft.finder import breadth_of, has_ends, height_of, length_of, searched
from sumcraft.terms import Term
from sumcraft.texts import read_term

EXAMPLES = {
    "C(n, k)": ([[-2], [1]], 1, [[-1], []]),
    "C(n, k) * [-1]^k": ([[0, 1]], 0, [[-1]]),
}
FOUND = [
    "C(n, k)", "C(n, k) * [-1]^k", "C(n, k) * [3]^k", "C(n, k) * [-1/2]^k", "C(n, k) * [2]^n", "C(n, k) * [1/2]^n",
    "C(n, k) * [-1]^k * [-2/3]^n", "C(n, n-k)", "C(n, k) * C(n, k)", "C(n, k) * C(n, n-k)", "C(n, k) * C(n, k) * [-1]^k",
    "C(n, k) * C(n+k, k)", "C(n, k) * C(n+k, k) * [-1]^k", "C(n, k) * C(n+k, k) * [-1/2]^k", "C(n, 2k)", "C(n+1, 2k+1)",
    "C(n+1, 2k)", "C(2n, 2k)", "C(n, 2k) * [-1]^k", "C(n, k) * (k)", "C(n, k) * (k) * (k)", "C(n, k) * (n-2k)",
    "C(n, k) * (2n-k+1) * [-1/2]^k", "C(n, k) * (0)", "C(n, 2k) * (0)", "C(n, k) * (k) * (k) * (k) * (k)",
    "C(n, k) * C(2n, n)", "C(n, k) * C(3n, n)", "C(n, k) * C(n, 2)", "C(2n, n+k) * C(k, 0)", "C(n, k) * C(5, 2)",
    "C(n, k) * C(n, k) * C(2n, n)", "C(n, k) * C(n, k) * (n) * (n) * (n) * (n)", "C(n, k) * C(5, 9)",
    "C(n, k) * C(2n+k+2, k+1) * (-2n-k-2)", "C(n, k) * C(n+3, k+1)", "C(n, k) * C(n+1, k+2) * (-k+3) * [-2]^k",
    "C(n, 2k) * (n-3k-1) * [1/3]^k * (-3n-k-1)", "C(2n, 2k) * (-2k+2) * [-2/3]^k", "C(n+k, 2k) * C(n, 0)",
    "C(n, k) * C(n+k, -n+k)", "C(n, k) * C(k, 2)", "C(n, k) * C(k+1, 1) * (k-3)", "C(n+1, k) * C(n+1, k+1)",
]
NO_ENDS = [
    "(n)", "(0)", "[2]^k", "[2]^n", "(k) * [-1]^k", "C(5, 2)", "C(n, 2)", "C(2n, n)", "C(n+k, k)", "C(2k, k)",
    "C(n+1, k)", "C(2n, k)", "C(n+2, 2k)", "C(2n+2, 2k)", "C(3n, 2k)", "C(n+1, k+1)", "C(n+1, k) * C(n+k, k)",
    "C(n+2, 2k+2)", "C(n, k-1) * C(n, k+1)", "C(2n, n+k)", "C(2n, n+k) * [-1]^k", "C(n, k-2)",
    "C(n+3, 3k)", "C(n, k+1)", "C(k, 0)", "C(n+1, n-k+1)",
]
BREADTH_ABOVE = [
    "C(n, k) * C(n, k) * C(n, k)", "C(n, 3k)", "C(3n, 3k)", "C(n, k) * C(2k, k)", "C(n, k) * C(n, 2k)",
    "C(n, k) * C(n+2k, 2k)", "C(n, k) * C(n+3k, k)", "C(n, k) * C(n+k, k) * C(k, 1)", "C(2n, n+k) * C(2k, k)",
    "C(n, -n+2k) * C(n, k)",
]
HEIGHT_ABOVE = [
    "C(n, k) * (k) * (k) * (k) * (k) * (k)", "C(n, k) * (n+k) * (k) * (-k) * (2k) * (k+1)", "C(2n, 2k) * (k) * (k)",
    "C(n, k) * C(2n, k)", "C(n, k) * C(n, k) * (k) * (k)", "C(n, 2k) * (k) * (k) * (k) * (k)",
]
LENGTH_ABOVE = [
    "C(2n, 2k) * (n) * (n) * (n) * (n) * (n)", "C(n, k) * C(n, k) * C(3n, n)", "C(n, 2k) * C(3n, n) * (n)",
    "C(n, k) * C(3n, n) * C(3n, n) * (n) * (n)", "C(n, k) * C(3n, 0) * C(3n, 0) * (n) * (n)",
]
AT_THE_BOUNDS = {
    "C(n, k) * (k) * (k) * (k) * (k)": (1, 5, 1), "C(n, k) * C(n, k) * (n) * (n) * (n) * (n)": (2, 4, 8),
    "C(2n, 2k) * (n) * (n) * (n) * (n)": (2, 4, 8), "C(2n, 2k) * (n+k) * (n) * (n) * (n)": (2, 5, 8),
    "C(n, k) * C(n, k) * (n+k) * (n) * (n) * (n)": (2, 5, 8),
}


def degree(pair, which):
    return max([powers[which] for powers in pair], default=0)


def plain_breadth(parts, far=0):
    return max(degree(pair, 1) for pair in plain_frame(parts, far)[1:])


def plain_height(parts, far):
    return max(degree(pair, 1) for pair in plain_frame(parts, far)[0])


def plain_length(parts, far):
    steps, up, down = plain_frame(parts, far)
    return max(degree(pair, 0) for pair in steps + [up, down])


def plain_ends(parts):
    lows = [low for part in parts if part[0] == "choose" for low in low_forms_of(part)]
    falls = [x for x in lows if x[1] < 0 and x[0] + x[1] <= 0 and x[1] + x[2] < 0]
    return bool(falls) and bool([x for x in lows if x[0] == 0 and x[1] > 0 and 0 <= x[2] < x[1]])


def k_to_the(power, by):
    answer = {(0, 0): 1}
    for _ in range(power):
        answer = plain_pair_times(answer, {(0, 1): 1, (0, 0): by} if by else {(0, 1): 1})
    return answer


def vector_of(pair, width):
    answer = []
    for j in range(width):
        numbers = [pair.get((i, j), 0) for i in range(degree(pair, 0) + 1)]
        while numbers and numbers[-1] == 0:
            numbers.pop()
        answer.append(numbers)
    return answer


def plain_searched(parts):
    """What is searched, word for word as the document tells it."""
    for far in range(9):
        steps, up, down = plain_frame(parts, far)
        e = plain_height(parts, far) - plain_breadth(parts) + 1
        pairs = []
        for t in range(e + 1):
            ahead = plain_pair_times(up, k_to_the(t, 1))
            behind = plain_pair_times(plain_pair_moved(down, 0, -1), k_to_the(t, 0))
            pairs.append(plain_pair_plus({powers: -x for powers, x in ahead.items()}, behind))
        width = 1 + max(degree(pair, 1) for pair in pairs + steps)
        found = plain_relation([vector_of(pair, width) for pair in pairs + steps])
        if found is not None:
            return found[max(e + 1, 0):], far, found[:max(e + 1, 0)]
    return None


def poly_pair(poly, power=0):
    return {(i, power): number for i, number in enumerate(poly) if number != 0}


class Numbers(unittest.TestCase):
    def test_ends(self):
        for text in FOUND + BREADTH_ABOVE + HEIGHT_ABOVE + LENGTH_ABOVE:
            self.assertIs(has_ends(read_term(text)), True, text)
        for text in NO_ENDS:
            self.assertIs(has_ends(read_term(text)), False, text)

    def test_ends_of_chance(self):
        rng = dice(1)
        many = 0
        for _ in range(1500):
            parts = [any_choose(rng) for _ in range(rng.randint(1, 6))]
            many += plain_ends(parts)
            self.assertIs(has_ends(Term(parts)), plain_ends(parts), parts)
        self.assertGreater(many, 50)

    def test_all_low_forms_for_the_one_end_beside_the_other(self):
        begins = ("choose", (0, 1, 0), (0, 0, 0))
        falls = ("choose", (3, 0, 0), (2, 3, 0))
        for x0 in range(-3, 4):
            for x1 in range(-3, 4):
                for x2 in range(-9, 10):
                    part = ("choose", (3, 3, 9), (x0, x1, x2))
                    if all(low[0] != 0 or low[1] >= 0 for low in low_forms_of(part)):
                        for parts in ([part, begins], [falls, part], [part]):
                            self.assertIs(has_ends(Term(parts)), plain_ends(parts), parts)

    def test_breadth_height_and_length(self):
        term = read_term("C(n, k) * C(n+k, k)")
        self.assertEqual([breadth_of(term)] + [height_of(term, far) for far in range(3)], [2, 0, 1, 2])
        self.assertEqual([length_of(term, far) for far in range(3)], [2, 2, 4])
        term = read_term("C(3n, n)")
        self.assertEqual([breadth_of(term), height_of(term, 2), length_of(term, 0), length_of(term, 2)], [0, 0, 0, 6])
        term = read_term("C(3k, k)")
        self.assertEqual([breadth_of(term), height_of(term, 2), length_of(term, 2)], [3, 0, 0])
        term = read_term("(3n+k) * (k) * (5) * [2]^k * [2]^n")
        self.assertEqual([breadth_of(term), height_of(term, 1), length_of(term, 1)], [0, 2, 1])

    def test_a_weight_of_nought(self):
        term = read_term("(0) * (n) * (k)")
        self.assertEqual([breadth_of(term), height_of(term, 2), length_of(term, 2)], [0, 0, 0])
        term = read_term("C(n, k) * (0) * (k) * (n)")
        self.assertEqual([breadth_of(term), height_of(term, 2), length_of(term, 2)], [1, 0, 1])

    def test_all(self):
        for text in FOUND + NO_ENDS + BREADTH_ABOVE + HEIGHT_ABOVE + LENGTH_ABOVE:
            self.hold(read_term(text).told())

    def test_of_chance(self):
        rng = dice(2)
        for _ in range(60):
            self.hold([any_part(rng, 2) for _ in range(rng.randint(1, 3))])

    def hold(self, parts):
        term = Term(parts)
        told = [breadth_of(term)]
        for far in range(3):
            self.assertEqual(plain_breadth(parts, far), told[0])
            told += [height_of(term, far), length_of(term, far)]
            self.assertEqual(told[-2:], [plain_height(parts, far), plain_length(parts, far)], (parts, far))
        self.assertEqual([type(number) for number in told], [int] * 7)

    def test_six_great_chooses(self):
        term = Term([("choose", (3, 3, 9), (-3, -3, -9))] * 6)
        self.assertEqual([breadth_of(term), height_of(term, 2), length_of(term, 2)], [36, 72, 72])


class Refusals(unittest.TestCase):
    def test_no_ends(self):
        for text in NO_ENDS:
            refused(self, NoEnds, searched, read_term(text))

    def test_no_ends_comes_ahead(self):
        for text in ("C(n+1, k) * C(n+1, k) * C(n+1, k)", "C(n+3, 3k)", "C(n+1, k) * (k) * (k) * (k) * (k) * (k)",
                     "C(2n+2, 2k) * (n) * (n) * (n) * (n) * (n)", "C(3n+3k+9, 3k)", "C(2n, k) * C(3n, n) * C(3n, n)"):
            refused(self, NoEnds, searched, read_term(text))

    def test_too_great(self):
        for text in BREADTH_ABOVE + HEIGHT_ABOVE + LENGTH_ABOVE:
            refused(self, TooGreat, searched, read_term(text))

    def test_what_is_above_its_bound(self):
        for text in BREADTH_ABOVE:
            self.assertGreater(breadth_of(read_term(text)), 2, text)
        for text in HEIGHT_ABOVE:
            term = read_term(text)
            breadth = breadth_of(term)
            self.assertTrue(breadth <= 2 and height_of(term, breadth) > 5 and length_of(term, breadth) <= 8, text)
        for text in LENGTH_ABOVE:
            term = read_term(text)
            breadth = breadth_of(term)
            self.assertTrue(breadth <= 2 and height_of(term, breadth) <= 5 and length_of(term, breadth) > 8, text)

    def test_at_the_bounds(self):
        for text, wanted in AT_THE_BOUNDS.items():
            term = read_term(text)
            breadth = breadth_of(term)
            self.assertEqual((breadth, height_of(term, breadth), length_of(term, breadth)), wanted, text)
            self.assertEqual(len(searched(term)), 3)

    def test_height_and_length_are_those_for_far_as_great_as_the_breadth(self):
        # for far = 2 these are 6 and 12, but the breadth is 1
        for text in ("C(n, k) * (k) * (k) * (k) * (k)", "C(n, k) * C(3n, n) * C(3n, n) * (n)"):
            term = read_term(text)
            self.assertTrue(height_of(term, 2) > 5 or length_of(term, 2) > 8, text)
            self.assertEqual(len(searched(term)), 3)


class Searched(unittest.TestCase):
    def kinds(self, told):
        self.assertEqual([type(told), len(told)], [tuple, 3])
        self.assertEqual([type(thing) for thing in told], [list, int, list])
        for poly in told[0] + told[2]:
            self.assertIs(type(poly), list)
            self.assertTrue(all(type(number) is int for number in poly))
            self.assertTrue(not poly or poly[-1] != 0)

    def equation(self, parts, told):
        """That the equation holds, as one of polynomials."""
        rule, far, q = told
        steps, up, down = plain_frame(parts, far)
        side = {}
        for poly, step in zip(rule, steps):
            side = plain_pair_plus(side, plain_pair_times(poly_pair(poly), step))
        whole = {}
        for power, poly in enumerate(q):
            whole = plain_pair_plus(whole, poly_pair(poly, power))
        ahead = plain_pair_times(up, plain_pair_moved(whole, 0, 1))
        behind = plain_pair_times(plain_pair_moved(down, 0, -1), whole)
        self.assertTrue(plain_pair_plus(side, behind) == ahead, parts)

    def form(self, parts, told):
        rule, far, q = told
        self.kinds(told)
        self.assertTrue(len(rule) <= far + 1 and far <= plain_breadth(parts))
        self.assertEqual(len(q), max(0, plain_height(parts, far) - plain_breadth(parts) + 2))
        self.assertGreater(rule[-1][-1], 0)
        self.assertEqual(plain_common_of(q + rule), [1])

    def by_values(self, parts, told, until):
        """That the sums keep the rule, and that its telescope is one, with 0 at both ends."""
        rule, far, q = told
        order = len(rule) - 1
        sums = [sum(plain_worth(parts, n, k) for k in range(n + 1)) for n in range(until + order)]
        down = plain_frame(parts, far)[2]

        def telescope(n, k):
            whole = sum(plain_value(poly, n) * k ** power for power, poly in enumerate(q))
            return plain_pair_value(down, n, k - 1) * whole * plain_floor(parts, n, k, far)

        for n in range(until):
            self.assertEqual(sum(plain_value(poly, n) * sums[n + i] for i, poly in enumerate(rule)), 0, (parts, n))
            self.assertEqual(telescope(n, 0), 0)
            for k in range(n + far + 3):
                step = sum(plain_value(poly, n) * plain_worth(parts, n + i, k) for i, poly in enumerate(rule))
                self.assertEqual(step, telescope(n, k + 1) - telescope(n, k), (parts, n, k))
                self.assertTrue(k <= n + far or telescope(n, k) == 0, (parts, n, k))

    def test_examples(self):
        for text, wanted in EXAMPLES.items():
            self.assertEqual(searched(read_term(text)), wanted)

    def test_well_known_sums(self):
        self.assertEqual(searched(read_term("C(n, k) * C(n, k)"))[:2], ([[-2, -4], [1, 1]], 1))
        self.assertEqual(searched(read_term("C(n, k) * [2]^k"))[:2], ([[-3], [1]], 1))
        self.assertEqual(searched(read_term("C(n, k) * C(n+k, k)"))[:2], ([[1, 1], [-9, -6], [2, 1]], 2))
        self.assertEqual(searched(read_term("C(n, k) * C(n+k, k) * [-1]^k"))[0], [[1], [1]])

    def test_nought(self):
        self.assertEqual(searched(read_term("C(n, k) * (0)")), ([[1]], 0, [[]]))
        self.assertEqual(searched(read_term("C(n, 2k) * (0)")), ([[1]], 0, []))

    def test_without_q(self):
        # the height for far = 0 is 0 and the breadth 2: no vectors stand ahead, and S_0 alone does not hang
        self.assertEqual(searched(read_term("C(n, 2k)")), ([[0, -2], [0, 1]], 1, [[-1]]))

    def test_word_for_word(self):
        for text in FOUND:
            parts = read_term(text).told()
            self.assertEqual(searched(Term(parts)), plain_searched(parts), text)

    def test_equation_and_form(self):
        for text in FOUND + list(AT_THE_BOUNDS):
            parts = read_term(text).told()
            told = searched(Term(parts))
            self.form(parts, told)
            self.equation(parts, told)

    def test_values(self):
        for text in FOUND + list(AT_THE_BOUNDS):
            parts = read_term(text).told()
            self.by_values(parts, searched(Term(parts)), 7)

    def test_sums_far_out(self):
        for text in ("C(n, k) * C(n, k) * [-1/3]^k", "C(n, k) * C(n+k, k) * [2]^n", "C(n, 2k) * (3n-k+1)"):
            term = read_term(text)
            rule = searched(term)[0]
            values = []
            for n in (97, 98, 99, 100):
                values.append(sum((Fraction(*term.worth(n, k)) for k in range(n + 1)), Fraction(0)))
            sums = [plain_value(poly, 97) * value for poly, value in zip(rule, values)]
            self.assertEqual(sum(sums), 0, text)

    def chance(self, rng, figures):
        parts = [("choose", (rng.choice([1, 1, 2]), 0, 0), (0, rng.choice([1, 1, 2]), 0))]
        for _ in range(rng.randrange(6)):
            kind = rng.choice(["choose", "choose", "weight", "power", "growth"])
            if kind == "choose":
                upper = (rng.choice([0, 1, 1, 2]), rng.choice([0, 0, 1]), rng.choice([0, 0, 1, 2]))
                parts.append((kind, upper, (rng.choice([0, 0, 1, -1]), rng.choice([1, 1, 0]), rng.choice([0, 1, -1]))))
            elif kind == "weight":
                parts.append((kind, tuple(rng.choice([0, 1, -2, rng.randrange(10 ** figures)]) for _ in range(3))))
            else:
                parts.append((kind, any_fraction(rng, figures)))
        standing = all(low[0] != 0 or low[1] >= 0 for part in parts if part[0] == "choose" for low in low_forms_of(part))
        return parts if standing else self.chance(rng, figures)

    def of_chance(self, seed, figures, many):
        """Terms of chance of whose sum a rule is found."""
        rng = dice(seed)
        found = []
        while len(found) < many:
            parts = self.chance(rng, figures)
            breadth = plain_breadth(parts)
            sizes = breadth <= 2 and plain_height(parts, breadth) <= 5 and plain_length(parts, breadth) <= 8
            if not plain_ends(parts):
                refused(self, NoEnds, searched, Term(parts))
            elif not sizes:
                refused(self, TooGreat, searched, Term(parts))
            else:
                found.append(parts)
        return found

    def test_of_chance(self):
        for parts in self.of_chance(3, 1, 60):
            told = searched(Term(parts))
            self.form(parts, told)
            self.equation(parts, told)
            self.by_values(parts, told, 4)

    def test_of_chance_word_for_word(self):
        for parts in self.of_chance(4, 1, 25):
            self.assertTrue(searched(Term(parts)) == plain_searched(parts), parts)

    def test_numbers_of_sixty_figures(self):
        for parts in self.of_chance(5, 60, 20) + [
            [("choose", (1, 0, 0), (0, 1, 0)), ("weight", (SIXTY, -SIXTY, 7)), ("power", (SIXTY, SIXTY - 1))],
            [("choose", (1, 0, 0), (0, 1, 0))] * 2 + [("power", (-SIXTY, 3)), ("growth", (-1, SIXTY)),
                                                      ("weight", (1, SIXTY, -SIXTY))],
        ]:
            told = searched(Term(parts))
            self.form(parts, told)
            self.equation(parts, told)
            self.by_values(parts, told, 2)


class Own(unittest.TestCase):
    def test_told_lists_are_the_askers_own(self):
        for text in FOUND:
            term = read_term(text)
            told = searched(term)
            wanted = copy.deepcopy(told)
            for poly in told[0] + told[2]:
                poly.append(7)
            told[0].append([1])
            told[2].append([1])
            self.assertTrue(searched(term) == wanted)
            self.assertEqual(term.told(), read_term(text).told())

    def test_noughts_in_q_are_lists_apart(self):
        told = searched(read_term("C(n, k) * (0) * (0)"))
        told[2][0].append(5)
        self.assertEqual(searched(read_term("C(n, k) * (0) * (0)")), ([[1]], 0, [[]]))
        rule, far, q = searched(read_term("C(n, k) * C(n, k) * C(5, 9)"))
        self.assertEqual(len({id(poly) for poly in rule + q}), len(rule + q))


if __name__ == "__main__":
    unittest.main()
