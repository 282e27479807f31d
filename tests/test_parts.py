"""Points 24 and 25 for each kind of part: worths, steps, ups, downs and floors."""

import unittest
from fractions import Fraction
from math import comb

from helpers import SIXTY, dice
from plain_terms import (
    CHOOSES, FRACTIONS, PARTS, WEIGHTS, any_choose, any_part, plain_pair_value, plain_part_ends, plain_part_floor,
    plain_part_step, plain_part_worth,
)
from sumcraft.parts import Choose, Growth, Part, Power, Weight

ONE = {(0, 0): 1}
NEAR = [(n, k) for n in range(8) for k in range(8)]
PLACES = NEAR + [(20, 7), (7, 20), (400, 0), (0, 400), (400, 400), (399, 200), (133, 400), (400, 401)]


def made(part):
    if part[0] == "choose":
        return Choose(part[1], part[2])
    if part[0] == "weight":
        return Weight(part[1])
    return Power(part[1]) if part[0] == "power" else Growth(part[1])


class Parts(unittest.TestCase):
    def fraction(self, told, wanted):
        """That what is told is the wanted fraction, and of the kinds told."""
        self.assertIs(type(told), tuple)
        self.assertEqual([type(number) for number in told], [int, int])
        self.assertTrue(told == (wanted.numerator, wanted.denominator))

    def pair(self, told, wanted):
        """That what is told is the wanted polynomial, and of the kinds told."""
        self.assertIs(type(told), dict)
        self.assertTrue(told == wanted, (told, wanted))
        for powers, number in told.items():
            self.assertEqual([type(powers), type(powers[0]), type(powers[1]), type(number)], [tuple, int, int, int])


class PartItself(Parts):
    def test_all(self):
        part = Part()
        for n, k in PLACES:
            self.assertEqual(part.worth(n, k), (1, 1))
            for far in range(3):
                self.assertEqual(part.floor(n, k, far), (1, 1))
        for far in range(3):
            self.pair(part.up(far), ONE)
            self.pair(part.down(far), ONE)
            for i in range(far + 1):
                self.pair(part.step(i, far), ONE)

    def test_the_others_stand_under_it(self):
        for part in PARTS:
            self.assertIsInstance(made(part), Part)
        self.assertEqual([kind.__bases__ for kind in (Choose, Weight, Power, Growth)], [(Part,)] * 4)


class Worths(Parts):
    def test_choose(self):
        choose = Choose((1, 0, 0), (0, 1, 0))
        self.assertEqual([choose.worth(5, k) for k in range(7)], [(x, 1) for x in (1, 5, 10, 10, 5, 1, 0)])
        choose = Choose((1, 0, 0), (1, -1, 0))
        self.assertEqual([choose.worth(5, k) for k in range(7)], [(x, 1) for x in (1, 5, 10, 10, 5, 1, 0)])
        self.assertEqual(Choose((2, 0, 0), (1, 0, 0)).worth(4, 9), (70, 1))
        self.assertEqual(Choose((1, 1, 1), (0, 2, 0)).worth(3, 2), (15, 1))

    def test_choose_with_a_low_form_below_0(self):
        low = Choose((1, 0, 3), (1, 0, -2))
        self.assertEqual([low.worth(n, 0) for n in range(4)], [(0, 1), (0, 1), (1, 1), (6, 1)])
        high = Choose((1, 0, 0), (0, 0, 2))
        self.assertEqual([high.worth(n, 0) for n in range(4)], [(0, 1), (0, 1), (1, 1), (3, 1)])
        self.assertEqual(Choose((0, 0, 5), (0, 0, -1)).worth(3, 3), (0, 1))
        self.assertEqual(Choose((0, 0, 5), (0, 0, 6)).worth(3, 3), (0, 1))
        self.assertEqual(Choose((0, 0, 5), (0, 0, 5)).worth(3, 3), (1, 1))
        self.assertEqual(Choose((0, 0, 0), (0, 0, 0)).worth(3, 3), (1, 1))

    def test_choose_far_out(self):
        self.assertTrue(Choose((1, 0, 0), (0, 1, 0)).worth(400, 200) == (comb(400, 200), 1))
        self.assertTrue(Choose((3, 3, 9), (1, 2, 4)).worth(400, 400) == (comb(2409, 1204), 1))
        self.assertEqual(Choose((1, 0, 0), (0, 1, 0)).worth(400, 401), (0, 1))

    def test_weight(self):
        self.assertEqual(Weight((2, -1, 3)).worth(4, 5), (6, 1))
        self.assertEqual(Weight((2, -1, 3)).worth(1, 5), (0, 1))
        self.assertEqual(Weight((2, -1, 3)).worth(0, 5), (-2, 1))
        self.assertEqual(Weight((0, 0, 0)).worth(7, 8), (0, 1))
        self.assertEqual(Weight((SIXTY, 0, -SIXTY)).worth(400, 1), (399 * SIXTY, 1))

    def test_power_and_growth(self):
        self.assertEqual([Power((-2, 3)).worth(9, k) for k in range(4)], [(1, 1), (-2, 3), (4, 9), (-8, 27)])
        self.assertEqual([Growth((-2, 3)).worth(n, 9) for n in range(4)], [(1, 1), (-2, 3), (4, 9), (-8, 27)])
        self.assertEqual([Power((-1, 1)).worth(0, k) for k in (399, 400)], [(-1, 1), (1, 1)])
        self.assertTrue(Power((-2, SIXTY)).worth(0, 400) == (2 ** 400, SIXTY ** 400))
        self.assertTrue(Growth((SIXTY, 2)).worth(399, 1) == (SIXTY ** 399, 2 ** 399))

    def test_all_kinds(self):
        for part in PARTS:
            piece = made(part)
            for n, k in PLACES:
                self.fraction(piece.worth(n, k), plain_part_worth(part, n, k))

    def test_of_chance(self):
        rng = dice(1)
        for _ in range(300):
            part = any_part(rng, rng.choice([1, 2, 60]))
            n, k = rng.randrange(401), rng.randrange(401)
            for place in ((n, k), (n, n % 40), (k % 30, k), (n % 12, k % 12)):
                self.fraction(made(part).worth(*place), plain_part_worth(part, *place))


class Floors(Parts):
    def test_choose(self):
        # n! / (k! (n - k + far)!), the low form with n lifted
        self.assertEqual([Choose((1, 0, 0), (0, 1, 0)).floor(5, 2, far) for far in range(3)], [(10, 1), (5, 2), (1, 2)])
        self.assertEqual(Choose((1, 0, 0), (0, 1, 0)).floor(5, 6, 1), (1, 6))
        self.assertEqual(Choose((1, 0, 0), (0, 1, 0)).floor(5, 7, 1), (0, 1))
        self.assertEqual(Choose((1, 0, 0), (0, 1, 0)).floor(5, 7, 2), (1, 42))
        # lower falls with n, so it is not lifted, but upper less lower is
        self.assertEqual([Choose((0, 0, 3), (-1, 1, 0)).floor(2, 3, far) for far in range(3)], [(3, 1), (1, 1), (1, 4)])
        self.assertEqual(Choose((0, 0, 3), (-1, 1, 0)).floor(2, 1, 1), (0, 1))

    def test_weight_power_and_growth(self):
        self.assertEqual(Weight((0, 0, 0)).floor(3, 4, 2), (1, 1))
        self.assertEqual(Power((-2, 3)).floor(3, 2, 2), (4, 9))
        self.assertEqual([Growth((-2, 3)).floor(2, 3, far) for far in range(3)], [(4, 9), (4, 27), (4, 81)])
        self.assertEqual(Growth((-2, 3)).floor(0, 3, 2), (1, 9))

    def test_all_kinds(self):
        for part in PARTS:
            piece = made(part)
            for n, k in PLACES:
                for far in range(3):
                    self.fraction(piece.floor(n, k, far), plain_part_floor(part, n, k, far))

    def test_of_chance(self):
        rng = dice(2)
        for _ in range(200):
            part = any_part(rng, rng.choice([1, 2, 60]))
            n, k = rng.randrange(401), rng.randrange(401)
            for place in ((n, k), (n, n % 40), (k % 30, k), (n % 12, k % 12)):
                far = rng.randrange(3)
                self.fraction(made(part).floor(*place, far), plain_part_floor(part, *place, far))


class Frames(Parts):
    def test_choose_of_n_and_k(self):
        part = Choose((1, 0, 0), (0, 1, 0))
        self.pair(part.step(0, 0), ONE)
        self.pair(part.step(0, 1), {(1, 0): 1, (0, 1): -1, (0, 0): 1})
        self.pair(part.step(1, 1), {(1, 0): 1, (0, 0): 1})
        self.pair(part.step(2, 2), {(2, 0): 1, (1, 0): 3, (0, 0): 2})
        self.pair(part.up(0), {(1, 0): 1, (0, 1): -1})
        self.pair(part.up(2), {(1, 0): 1, (0, 1): -1, (0, 0): 2})
        self.pair(part.down(2), {(0, 1): 1, (0, 0): 1})

    def test_choose_with_a_low_form_that_falls_with_n(self):
        part = Choose((0, 0, 3), (-1, 1, 0))
        # lower is k - n, upper less lower n - k + 3
        self.pair(part.step(0, 1), {(1, 0): 1, (0, 1): -1, (0, 0): 4})
        self.pair(part.step(1, 1), {(1, 0): -1, (0, 1): 1})
        self.pair(part.up(1), {(1, 0): 1, (0, 1): -1, (0, 0): 4})
        self.pair(part.down(1), {(1, 0): -1, (0, 1): 1, (0, 0): 1})

    def test_choose_with_k_above(self):
        part = Choose((1, 2, 0), (0, 1, 0))
        self.pair(part.up(0), {(2, 0): 1, (1, 1): 4, (0, 2): 4, (1, 0): 3, (0, 1): 6, (0, 0): 2})
        self.pair(part.down(0), {(1, 1): 1, (0, 2): 1, (1, 0): 1, (0, 1): 2, (0, 0): 1})

    def test_weight(self):
        part = Weight((2, -1, 3))
        self.pair(part.step(0, 2), {(1, 0): 2, (0, 1): -1, (0, 0): 3})
        self.pair(part.step(2, 2), {(1, 0): 2, (0, 1): -1, (0, 0): 7})
        self.pair(Weight((1, 0, -1)).step(1, 2), {(1, 0): 1})
        self.pair(Weight((0, 0, 0)).step(1, 2), {})
        self.pair(part.up(1), ONE)
        self.pair(part.down(1), ONE)

    def test_power_and_growth(self):
        for far in range(3):
            self.pair(Power((-2, 3)).up(far), {(0, 0): -2})
            self.pair(Power((-2, 3)).down(far), {(0, 0): 3})
            self.pair(Growth((-2, 3)).up(far), ONE)
            self.pair(Growth((-2, 3)).down(far), ONE)
            for i in range(far + 1):
                self.pair(Power((-2, 3)).step(i, far), ONE)
                self.pair(Growth((-2, 3)).step(i, far), {(0, 0): (-2) ** i * 3 ** (far - i)})

    def test_all_kinds_word_for_word(self):
        for part in PARTS:
            piece = made(part)
            for far in range(3):
                up, down = plain_part_ends(part, far)
                self.pair(piece.up(far), up)
                self.pair(piece.down(far), down)
                for i in range(far + 1):
                    self.pair(piece.step(i, far), plain_part_step(part, i, far))

    def test_chooses_of_chance_word_for_word(self):
        rng = dice(3)
        for _ in range(150):
            part = any_choose(rng)
            far = rng.randrange(3)
            up, down = plain_part_ends(part, far)
            self.pair(made(part).up(far), up)
            self.pair(made(part).down(far), down)
            for i in range(far + 1):
                self.pair(made(part).step(i, far), plain_part_step(part, i, far))

    def test_signs_of_the_low_forms_are_all_there(self):
        signs = set()
        for _, upper, lower in CHOOSES:
            for low in (lower, tuple(u - x for u, x in zip(upper, lower))):
                signs |= {tuple((x > 0) - (x < 0) for x in low[:2])}
        wanted = {(a, b) for a in (-1, 0, 1) for b in (-1, 0, 1)} - {(0, -1)}
        self.assertEqual(signs, wanted)


class WorthsByFrames(Parts):
    def hold(self, part, n, k):
        piece = made(part)
        for far in range(3):
            floor = Fraction(*piece.floor(n, k, far))
            for i in range(far + 1):
                worth = Fraction(*piece.worth(n + i, k))
                self.assertTrue(worth == plain_pair_value(piece.step(i, far), n, k) * floor, (part, n, k, i, far))
            ahead = Fraction(*piece.floor(n, k + 1, far))
            up, down = (plain_pair_value(pair, n, k) for pair in (piece.up(far), piece.down(far)))
            self.assertTrue(up * floor == down * ahead, (part, n, k, far))

    def test_all_kinds(self):
        for part in PARTS:
            for n, k in [(n, k) for n in range(6) for k in range(7)] + [(400, 400), (400, 130), (77, 400)]:
                self.hold(part, n, k)

    def test_of_chance(self):
        rng = dice(4)
        for _ in range(150):
            part = any_part(rng, 2)
            for place in [(rng.randrange(12), rng.randrange(12)) for _ in range(4)]:
                self.hold(part, *place)


class Own(unittest.TestCase):
    def test_told_dicts_are_the_askers_own(self):
        for piece in [Part()] + [made(part) for part in PARTS]:
            for ask in (lambda: piece.step(1, 2), lambda: piece.up(1), lambda: piece.down(1)):
                told = ask()
                wanted = dict(told)
                told[(0, 0)] = 99
                told[(9, 9)] = 1
                self.assertTrue(ask() == wanted)
                ask().clear()
                self.assertTrue(ask() == wanted)

    def test_asking_changes_nothing(self):
        for part in CHOOSES + WEIGHTS + [("power", FRACTIONS[4]), ("growth", FRACTIONS[4])]:
            piece = made(part)
            first = (piece.worth(5, 3), piece.floor(5, 3, 2), piece.step(1, 2), piece.up(2), piece.down(2))
            for far in (0, 2, 1):
                piece.floor(400, 2, far)
                piece.step(0, far)
                piece.up(far)
            again = (piece.worth(5, 3), piece.floor(5, 3, 2), piece.step(1, 2), piece.up(2), piece.down(2))
            self.assertTrue(first == again)


if __name__ == "__main__":
    unittest.main()
