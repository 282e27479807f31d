"""Points 24 and 25 for terms: what is refused, what is told, worths, floors and frames."""

import copy
import unittest
from fractions import Fraction

from helpers import SIXTY, THREE_HUNDRED, dice, refused
from plain_terms import (
    CHOOSES, FRACTIONS, PARTS, WEIGHTS, any_part, choose_stands, plain_floor, plain_frame, plain_pair_value, plain_worth,
)
from sumcraft.errors import NoTerm
from sumcraft.terms import Term

CHOOSE = ("choose", (1, 0, 0), (0, 1, 0))
LISTS = [
    [CHOOSE], [CHOOSE, CHOOSE], [CHOOSE, ("power", (-1, 1))], [CHOOSE, ("choose", (1, 1, 0), (0, 1, 0))],
    [("weight", (1, -1, 0)), CHOOSE, ("growth", (1, 2))],
    [CHOOSE, ("weight", (2, -1, 1)), ("power", (-1, 2)), ("growth", (-4, 3))],
    [("choose", (1, 0, 0), (-1, 2, 0)), ("weight", (0, 1, -3)), ("weight", (1, 0, -2)), ("power", (2, 3)), CHOOSE],
    [CHOOSE, ("choose", (2, 0, 0), (1, 0, 0)), ("weight", (0, 0, -6)), ("power", (5, 6)), ("growth", (3, 10)),
     ("growth", (-2, 15))],
    [("choose", (3, 3, 9), (-3, -3, -9)), ("choose", (0, 3, 9), (-3, 3, 9)), ("weight", (0, 0, 0))],
    [("power", (2, 3)), ("power", (3, 2)), ("power", (-9, 4)), ("growth", (8, 27)), ("growth", (27, 8)), CHOOSE],
    [("weight", (1, 0, 0))], [("power", (-3, 7))], [("growth", (-7, 3))], [("choose", (0, 0, 0), (0, 0, 0))],
    [("weight", (SIXTY, -SIXTY, 1)), ("power", (SIXTY, 3)), ("growth", (9, SIXTY)), CHOOSE],
]
LEAST = [(0, 0, 0), (-3, -3, -9)]
GREATEST = (3, 3, 9)


def with_number(form, place, number):
    return form[:place] + (number,) + form[place + 1:]


class Refusals(unittest.TestCase):
    def refused(self, parts):
        refused(self, NoTerm, Term, parts)

    def test_how_many_parts(self):
        self.refused([])
        for part in (CHOOSE, ("weight", (0, 0, 0)), ("power", (1, 1)), ("growth", (1, 1))):
            for many in range(1, 7):
                self.assertEqual(Term([part] * many).told(), [part] * many)
            for many in (7, 8, 300):
                self.refused([part] * many)

    def test_another_word_ahead(self):
        for word in ("", "Choose", "chose", "choos", "choose ", " weight", "weights", "POWER", "grow", "C", "k", "part"):
            for rest in (((1, 0, 0), (0, 1, 0)), ((1, 0, 0),), ((1, 2),)):
                self.refused([(word,) + rest])
                self.refused([CHOOSE, (word,) + rest])
                self.refused([(word,) + rest, CHOOSE])

    def test_numbers_of_a_choose_beyond_the_bounds(self):
        forms = [(2, 2, 4), (1, 1, 2)]
        self.assertEqual(Term([("choose", forms[0], forms[1])]).worth(0, 0), (6, 1))
        for which in range(2):
            for place in range(3):
                beyond = [LEAST[which][place] - 1, LEAST[which][place] - 5, GREATEST[place] + 1, GREATEST[place] + 9]
                for number in beyond + [-SIXTY, SIXTY, -THREE_HUNDRED, THREE_HUNDRED]:
                    wrong = list(forms)
                    wrong[which] = with_number(forms[which], place, number)
                    self.refused([("choose", wrong[0], wrong[1])])
                    self.refused([CHOOSE, ("choose", wrong[0], wrong[1]), CHOOSE])

    def test_numbers_of_a_choose_at_the_bounds(self):
        for which in range(2):
            for place in range(3):
                for number in (LEAST[which][place], GREATEST[place]):
                    forms = [(2, 2, 4), (1, 1, 2)]
                    forms[which] = with_number(forms[which], place, number)
                    part = ("choose", forms[0], forms[1])
                    self.assertEqual(Term([part]).told(), [part])

    def test_all_pairs_of_first_numbers(self):
        for u0 in range(-1, 5):
            for u1 in range(-1, 5):
                for l0 in range(-4, 5):
                    for l1 in range(-4, 5):
                        part = ("choose", (u0, u1, 3), (l0, l1, -2))
                        bounds = 0 <= u0 <= 3 and 0 <= u1 <= 3 and -3 <= l0 <= 3 and -3 <= l1 <= 3
                        if bounds and choose_stands(part[1], part[2]):
                            self.assertEqual(Term([part]).told(), [part])
                        else:
                            self.refused([part])

    def test_low_forms_that_fall_with_k_alone(self):
        self.refused([("choose", (1, 0, 0), (0, -1, 0))])
        self.refused([("choose", (1, 0, 0), (0, -3, 9))])
        self.refused([("choose", (1, 0, 0), (1, 1, 0))])
        self.refused([("choose", (0, 0, 9), (0, 1, 0))])
        self.refused([CHOOSE, CHOOSE, ("choose", (2, 1, 0), (2, 2, -9))])
        for lower in ((1, -1, 0), (0, 0, 0), (0, 0, -9), (0, 1, 0), (-1, -1, 0)):
            self.assertEqual(len(Term([("choose", (2, 1, 0), lower)]).told()), 1)

    def test_power_and_growth_of_0(self):
        for word in ("power", "growth"):
            self.refused([(word, (0, 1))])
            self.refused([CHOOSE, (word, (0, 1)), CHOOSE])
            self.refused([(word, (2, 3)), (word, (0, 1))])

    def test_a_weight_of_0_stands(self):
        self.assertEqual(Term([("weight", (0, 0, 0)), CHOOSE]).worth(4, 2), (0, 1))


class Told(unittest.TestCase):
    def test_as_handed_in(self):
        for parts in LISTS:
            told = Term(parts).told()
            self.assertIs(type(told), list)
            self.assertEqual(told, parts)
            self.assertTrue(all(type(part) is tuple for part in told))

    def answers(self, term):
        return (term.told(), term.worth(7, 3), term.floor(7, 3, 2), [term.frame(far) for far in range(3)])

    def test_changing_what_was_handed_in_or_told_changes_no_answer(self):
        for parts in LISTS:
            mine = list(parts)
            term = Term(mine)
            wanted = copy.deepcopy(self.answers(term))
            self.assertEqual(mine, parts)
            mine[0] = ("weight", (0, 0, 77))
            mine.append(("power", (5, 1)))
            self.assertTrue(self.answers(term) == wanted)
            mine.clear()
            self.assertTrue(self.answers(term) == wanted)
            told = term.told()
            told[0] = ("growth", (9, 1))
            told.pop()
            self.assertTrue(self.answers(term) == wanted)

    def test_changing_a_told_frame_changes_no_answer(self):
        for parts in LISTS:
            term = Term(parts)
            wanted = copy.deepcopy(term.frame(1))
            steps, up, down = term.frame(1)
            for pair in steps + [up, down]:
                pair[(0, 0)] = 1234
                pair[(8, 8)] = 1
            steps.clear()
            self.assertTrue(term.frame(1) == wanted)

    def test_two_terms_of_one_list(self):
        mine = [CHOOSE, ("power", (2, 1))]
        one, other = Term(mine), Term(mine)
        one.told().append(CHOOSE)
        self.assertEqual([one.told(), other.told()], [mine, mine])


class Worths(unittest.TestCase):
    def hold(self, parts, n, k):
        told, wanted = Term(parts).worth(n, k), plain_worth(parts, n, k)
        self.assertEqual([type(told), type(told[0]), type(told[1])], [tuple, int, int])
        self.assertTrue(told == (wanted.numerator, wanted.denominator), (parts, n, k))

    def test_ordinary(self):
        self.assertEqual(Term([CHOOSE, CHOOSE]).worth(4, 2), (36, 1))
        self.assertEqual(Term([CHOOSE, ("weight", (2, -1, 1)), ("power", (-1, 2))]).worth(4, 3), (-3, 1))
        self.assertEqual(Term([("power", (2, 3)), ("power", (3, 2))]).worth(5, 5), (1, 1))
        self.assertEqual(Term([("power", (2, 3)), ("growth", (9, 4))]).worth(1, 2), (1, 1))
        self.assertEqual(Term([("weight", (0, 0, 6)), ("growth", (1, 4))]).worth(2, 0), (3, 8))
        self.assertEqual(Term([("growth", (1, 4)), ("weight", (0, 0, -6))]).worth(2, 0), (-3, 8))
        self.assertEqual(Term([("growth", (1, 4)), ("weight", (1, 0, -2)), ("growth", (1, 3))]).worth(2, 0), (0, 1))

    def test_all(self):
        for parts in LISTS:
            for n, k in [(n, k) for n in range(9) for k in range(11)] + [(400, 400), (400, 3), (60, 59), (0, 400)]:
                self.hold(parts, n, k)

    def test_one_part(self):
        for part in PARTS:
            for n, k in ((0, 0), (3, 2), (2, 3), (31, 17), (400, 200)):
                self.hold([part], n, k)

    def test_of_chance(self):
        rng = dice(5)
        for _ in range(150):
            parts = [any_part(rng, rng.choice([1, 2, 60])) for _ in range(rng.randint(1, 6))]
            for n, k in ((rng.randrange(12), rng.randrange(12)), (rng.randrange(401), rng.randrange(60))):
                self.hold(parts, n, k)

    def test_far_out_with_long_fractions(self):
        parts = [CHOOSE, ("power", (SIXTY, SIXTY - 1)), ("growth", (-(SIXTY - 1), SIXTY + 2)), ("weight", (1, 1, 0))]
        told, wanted = Term(parts).worth(400, 321), plain_worth(parts, 400, 321)
        self.assertTrue(told == (wanted.numerator, wanted.denominator))


class Floors(unittest.TestCase):
    def hold(self, parts, n, k, far):
        told, wanted = Term(parts).floor(n, k, far), plain_floor(parts, n, k, far)
        self.assertEqual([type(told), type(told[0]), type(told[1])], [tuple, int, int])
        self.assertTrue(told == (wanted.numerator, wanted.denominator), (parts, n, k, far))

    def test_ordinary(self):
        self.assertEqual([Term([CHOOSE, CHOOSE]).floor(5, 2, far) for far in range(3)], [(100, 1), (25, 4), (1, 4)])
        self.assertEqual(Term([CHOOSE, ("weight", (0, 0, 0))]).floor(5, 2, 1), (5, 2))
        self.assertEqual(Term([CHOOSE, ("growth", (2, 3))]).floor(2, 1, 1), (4, 27))

    def test_all(self):
        for parts in LISTS:
            for n, k in [(n, k) for n in range(6) for k in range(8)] + [(400, 400), (400, 3), (60, 62), (0, 400)]:
                for far in range(3):
                    self.hold(parts, n, k, far)

    def test_of_chance(self):
        rng = dice(6)
        for _ in range(100):
            parts = [any_part(rng, rng.choice([1, 2, 60])) for _ in range(rng.randint(1, 6))]
            for n, k in ((rng.randrange(12), rng.randrange(12)), (rng.randrange(401), rng.randrange(60))):
                self.hold(parts, n, k, rng.randrange(3))


class Frames(unittest.TestCase):
    def kinds(self, frame, far):
        self.assertEqual([type(frame), len(frame), type(frame[0]), len(frame[0])], [tuple, 3, list, far + 1])
        for pair in frame[0] + [frame[1], frame[2]]:
            self.assertIs(type(pair), dict)
            self.assertTrue(all(type(number) is int and number != 0 for number in pair.values()))

    def hold(self, parts, far):
        frame = Term(parts).frame(far)
        self.kinds(frame, far)
        steps, up, down = plain_frame(parts, far)
        self.assertTrue(frame == (steps, up, down), (parts, far))

    def test_ordinary(self):
        self.assertEqual(
            Term([CHOOSE, ("power", (-2, 3))]).frame(1),
            ([{(1, 0): 1, (0, 1): -1, (0, 0): 1}, {(1, 0): 1, (0, 0): 1}],
             {(1, 0): -2, (0, 1): 2, (0, 0): -2}, {(0, 1): 3, (0, 0): 3}),
        )
        self.assertEqual(
            Term([("weight", (1, 0, 0)), ("growth", (2, 3)), ("weight", (0, 0, 5))]).frame(1),
            ([{(1, 0): 15}, {(1, 0): 10, (0, 0): 10}], {(0, 0): 1}, {(0, 0): 1}),
        )
        self.assertEqual(Term([CHOOSE, ("weight", (0, 0, 0))]).frame(0), ([{}], {(1, 0): 1, (0, 1): -1},
                                                                        {(0, 1): 1, (0, 0): 1}))

    def test_all_word_for_word(self):
        for parts in LISTS:
            for far in range(3):
                self.hold(parts, far)

    def test_one_part_word_for_word(self):
        for part in CHOOSES + WEIGHTS + [("power", FRACTIONS[4]), ("growth", FRACTIONS[4])]:
            for far in range(3):
                self.hold([part], far)

    def test_of_chance_word_for_word(self):
        rng = dice(7)
        for _ in range(40):
            self.hold([any_part(rng, 2) for _ in range(rng.randint(1, 3))], rng.randrange(3))

    def by_values(self, parts, places):
        term = Term(parts)
        for far in range(3):
            steps, up, down = term.frame(far)
            for n, k in places:
                floor, ahead = Fraction(*term.floor(n, k, far)), Fraction(*term.floor(n, k + 1, far))
                for i in range(far + 1):
                    worth = Fraction(*term.worth(n + i, k))
                    self.assertTrue(worth == plain_pair_value(steps[i], n, k) * floor, (parts, far, i, n, k))
                ends = plain_pair_value(up, n, k) * floor, plain_pair_value(down, n, k) * ahead
                self.assertTrue(ends[0] == ends[1], (parts, far, n, k))

    def test_worths_by_frames_and_floors(self):
        for parts in LISTS:
            self.by_values(parts, [(n, k) for n in range(6) for k in range(8)] + [(398, 400), (400, 5), (3, 400)])

    def test_worths_by_frames_and_floors_of_chance(self):
        rng = dice(8)
        for _ in range(25):
            parts = [any_part(rng, 2) for _ in range(rng.randint(1, 6))]
            self.by_values(parts, [(rng.randrange(10), rng.randrange(10)) for _ in range(8)])

    def test_six_great_chooses(self):
        parts = [("choose", (3, 3, 9), (-3, 3, 9))] * 6
        self.by_values(parts, [(0, 0), (5, 3), (2, 9)])


if __name__ == "__main__":
    unittest.main()
