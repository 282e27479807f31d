"""Points 14, 15 and 16: vectors that hang together, spans, and relations."""

import copy
import unittest

from helpers import (
    SIXTY, THREE_HUNDRED, any_poly, determinant, dice, plain_common, plain_plus, plain_times, plain_value,
)
from sumcraft.spans import Span, relation


def is_poly(case, poly):
    case.assertIs(type(poly), list)
    for number in poly:
        case.assertIs(type(number), int)
    case.assertTrue(not poly or poly[-1] != 0, poly)


def weighed(vectors, weights, width):
    """The sum of the vectors, each times its polynomial."""
    answer = [[] for _ in range(width)]
    for vector, weight in zip(vectors, weights):
        answer = [plain_plus(one, plain_times(weight, poly)) for one, poly in zip(answer, vector)]
    return answer


def is_relation(case, vectors, weights):
    """That the weights are the relation of the last vector; it is the only one where those ahead stand apart."""
    case.assertIs(type(weights), list)
    case.assertEqual(len(weights), len(vectors))
    for poly in weights:
        is_poly(case, poly)
    width = len(vectors[-1])
    case.assertEqual(weighed(vectors, weights, width), [[]] * width)
    case.assertGreater(weights[-1][-1], 0)
    shared = []
    for poly in weights:
        shared = plain_common(shared, poly) if shared or poly else []
        if shared == [1]:
            break
    case.assertEqual(shared, [1])


def is_apart(case, told, kept, width):
    """That the kept vectors stand apart as told."""
    case.assertIs(type(told), tuple)
    place, columns = told
    case.assertEqual([type(place), type(columns)], [int, list])
    case.assertGreaterEqual(place, 0)
    case.assertEqual(len(columns), len(kept))
    case.assertEqual(len(set(columns)), len(columns))
    for column in columns:
        case.assertIs(type(column), int)
        case.assertTrue(0 <= column < width)
    table = [[plain_value(vector[column], place) for column in columns] for vector in kept]
    case.assertNotEqual(determinant(table), 0)


def taken_all(case, width, vectors):
    """Hands all vectors to a span, holds each answer against what is told; the kept ones."""
    span, kept = Span(width), []
    is_apart(case, span.apart(), kept, width)
    for vector in vectors:
        answer = span.take(vector)
        if answer is None:
            kept.append(vector)
        else:
            is_relation(case, kept + [vector], answer)
        is_apart(case, span.apart(), kept, width)
    return kept


def unit(width, place, poly):
    return [poly if i == place else [] for i in range(width)]


def any_vector(rng, width, size, figures):
    return [any_poly(rng, rng.randrange(size + 1), figures) for _ in range(width)]


def roots(places):
    answer = [1]
    for place in places:
        answer = plain_times(answer, [-place, 1])
    return answer


class Take(unittest.TestCase):
    def test_ordinary(self):
        span = Span(2)
        self.assertIsNone(span.take([[1], [0, 1]]))
        self.assertEqual(span.take([[0, 1], [0, 0, 1]]), [[0, -1], [1]])
        self.assertIsNone(span.take([[1], [1]]))
        self.assertEqual(span.take([[1], []]), [[1], [0, -1], [-1, 1]])
        self.assertEqual(span.take([[], [1]]), [[-1], [1], [-1, 1]])

    def test_whole_numbers_alone(self):
        span = Span(2)
        self.assertIsNone(span.take([[2], [4]]))
        self.assertEqual(span.take([[3], [6]]), [[-3], [2]])
        self.assertEqual(span.take([[-3], [-6]]), [[3], [2]])
        self.assertEqual(span.take([[2], [4]]), [[-1], [1]])
        self.assertIsNone(span.take([[0, 1], [4]]))
        self.assertEqual(span.take([[6], []]), [[6], [-6], [-2, 1]])

    def test_a_vector_that_hangs_is_not_kept(self):
        span = Span(3)
        first, second = [[1], [2], [3]], [[0, 1], [], [1]]
        self.assertIsNone(span.take(first))
        for _ in range(3):
            self.assertEqual(span.take(first), [[-1], [1]])
        self.assertIsNone(span.take(second))
        both = weighed([first, second], [[5], [0, 2]], 3)
        for _ in range(3):
            self.assertEqual(span.take(both), [[-5], [0, -2], [1]])
        self.assertEqual(span.take(second), [[], [-1], [1]])
        self.assertEqual(span.take(first), [[-1], [], [1]])

    def test_the_last_number_is_above_0_and_the_common_1(self):
        span = Span(1)
        self.assertIsNone(span.take([[0, -2]]))
        self.assertEqual(span.take([[0, 2]]), [[1], [1]])
        self.assertEqual(span.take([[6]]), [[3], [0, 1]])
        self.assertEqual(span.take([[-6]]), [[-3], [0, 1]])
        self.assertEqual(span.take([[0, 0, 3]]), [[0, 3], [2]])
        self.assertEqual(span.take([[0, -1, 3]]), [[-1, 3], [2]])

    def test_polynomials_that_share_factors(self):
        for shared in ([2], [-6], [1, 1], [-3, 1], [0, 0, 4], [SIXTY, 3]):
            span = Span(1)
            self.assertIsNone(span.take([plain_times(shared, [1, 2])]))
            self.assertEqual(span.take([plain_times(shared, [5, 1])]), [[-5, -1], [1, 2]])

    def test_values_that_share_more_than_the_polynomials(self):
        # 2 divides n (n + 1) at each place, but it is no common factor.
        span = Span(1)
        self.assertIsNone(span.take([[2]]))
        self.assertEqual(span.take([[0, 1, 1]]), [[0, -1, -1], [2]])
        self.assertEqual(span.take([[0, 2, 2]]), [[0, -1, -1], [1]])

    def test_nought_alone_always_hangs(self):
        for width in range(41):
            span = Span(width)
            for many in range(width + 1):
                if many in (0, 1, 2, width):
                    self.assertEqual(span.take([[] for _ in range(width)]), [[]] * many + [[1]])
                    is_apart(self, span.apart(), [unit(width, i, [i + 1, 1]) for i in range(many)], width)
                if many < width:
                    self.assertIsNone(span.take(unit(width, many, [many + 1, 1])))

    def test_width_0(self):
        span = Span(0)
        for _ in range(3):
            self.assertEqual(span.take([]), [[1]])
            self.assertEqual(span.apart()[1], [])
            is_apart(self, span.apart(), [], 0)

    def test_width_1(self):
        span = Span(1)
        self.assertIsNone(span.take([[7]]))
        self.assertEqual(span.take([[1, 1]]), [[-1, -1], [7]])
        self.assertEqual(span.apart()[1], [0])

    def test_vectors_of_which_some_columns_are_nought(self):
        self.assertEqual(len(taken_all(self, 3, [[[], [], [1]], [[], [1], [1]], [[], [0, 1], [5]], [[1], [1], [1]]])), 3)

    def test_vectors_alike_at_many_places(self):
        # They stand apart at no place from 0 to 120, and still do not hang together.
        far = roots(range(121))
        self.assertEqual(len(taken_all(self, 1, [[far], [[1]]])), 1)
        self.assertEqual(len(taken_all(self, 2, [[[1], [1]], [[1], plain_plus([1], far)], [[2], [3]]])), 2)
        kept = taken_all(self, 3, [[[1], [], []], [[], far, []], [[1], [1], far], [[1], [1], [1]]])
        self.assertEqual(len(kept), 3)

    def test_vectors_alike_at_one_place(self):
        for place in range(130):
            self.assertEqual(len(taken_all(self, 1, [[[-place, 1]], [[1]]])), 1)
            kept = taken_all(self, 2, [[[1], [2]], [[1], [2 - place, 1]], [[place], [3]]])
            self.assertEqual(len(kept), 2)

    def test_weights_that_are_nought_at_one_place(self):
        one, other, third = [[1], [2], [0, 1], []], [[0, 1], [1], [], [3]], [[], [], [5], [1]]
        for place in range(130):
            span = Span(4)
            for vector in (one, other, third):
                self.assertIsNone(span.take(vector))
            for weights in ([[-place, 1], [1], []], [[2], [-place, 1], [3]], [[], [-place, 1], [-place, 1]]):
                wanted = [[-number for number in weight] for weight in weights] + [[1]]
                self.assertEqual(span.take(weighed([one, other, third], weights, 4)), wanted)
            self.assertIsNone(span.take([[], [], [], [-place, 1]]))
            is_apart(self, span.apart(), [one, other, third, [[], [], [], [-place, 1]]], 4)

    def test_vectors_that_hang_at_many_places_but_one_column(self):
        far = roots(range(90, 105))
        vectors = [[[1], [2], [3], [4]], [[0, 1], [1], [1], [1]], [[1, 1], [3], [4], plain_plus([5], far)]]
        self.assertEqual(taken_all(self, 4, vectors), vectors)

    def test_sizes_of_degrees(self):
        rng = dice(1)
        for size in (1, 2, 3, 6, 12):
            for width in (1, 2, 3, 4):
                vectors = [any_vector(rng, width, size, 2) for _ in range(width + 3)]
                taken_all(self, width, vectors)

    def test_combinations_hang(self):
        rng = dice(2)
        for width in (2, 3, 5, 8):
            for many in range(1, width + 1):
                vectors = [any_vector(rng, width, 2, 1) for _ in range(many)]
                weights = [any_poly(rng, rng.randrange(3), 1) for _ in range(many)]
                kept = taken_all(self, width, vectors + [weighed(vectors, weights, width)])
                self.assertLessEqual(len(kept), many)

    def test_all_widths(self):
        rng = dice(3)
        for width in range(41):
            span, kept = Span(width), []
            for place in range(width):
                vector = [[rng.randrange(-3, 4), 1] if place - 2 <= i <= place else [] for i in range(width)]
                self.assertIsNone(span.take(vector))
                kept.append(vector)
            is_apart(self, span.apart(), kept, width)
            weights = [any_poly(rng, rng.randrange(3), 1) for _ in range(width)]
            vector = weighed(kept, weights, width)
            answer = span.take(vector)
            is_relation(self, kept + [vector], answer)
            is_apart(self, span.apart(), kept, width)

    def test_width_40_filled(self):
        rng = dice(4)
        vectors = [any_vector(rng, 40, 2, 1) for _ in range(40)] + [[[i + 1] for i in range(40)]]
        span = Span(40)
        for vector in vectors[:40]:
            self.assertIsNone(span.take(vector))
        is_apart(self, span.apart(), vectors[:40], 40)
        answer = span.take(vectors[40])
        self.assertEqual(weighed(vectors, answer, 40), [[]] * 40)
        self.assertEqual(len(answer), 41)

    def test_numbers_of_many_figures(self):
        rng = dice(5)
        for figures in (60, 300):
            for width in (1, 2, 3):
                taken_all(self, width, [any_vector(rng, width, 3, figures) for _ in range(width + 2)])
        big = unit(40, 7, [THREE_HUNDRED, -SIXTY])
        span = Span(40)
        self.assertIsNone(span.take(big))
        self.assertEqual(span.take(unit(40, 7, [1])), [[1], [-THREE_HUNDRED, SIXTY]])

    def test_three_hundred_numbers(self):
        rng = dice(6)
        one, other = any_poly(rng, 299, 300) + [THREE_HUNDRED], any_poly(rng, 300, 300)
        span = Span(1)
        self.assertIsNone(span.take([one]))
        # assertTrue, because assertEqual would take minutes to show how such lists differ.
        self.assertTrue(span.take([other]) == [[-number for number in other], one])

    def test_what_was_told_may_be_handed_in(self):
        rng = dice(7)
        vectors = [any_vector(rng, 3, 4, 9) for _ in range(4)]
        told = relation(vectors)
        is_relation(self, vectors[:len(told)], told)
        taken_all(self, len(told), [told, told[::-1], told[1:] + told[:1], told])


class OwnLists(unittest.TestCase):
    def test_vectors_that_were_handed_in(self):
        one, other = [[1], [0, 1]], [[1], [1]]
        span = Span(2)
        span.take(one)
        span.take(other)
        span.take([[1], []])
        self.assertEqual((one, other), ([[1], [0, 1]], [[1], [1]]))
        place, columns = span.apart()
        one[0].append(5)
        one[1] = []
        other.clear()
        self.assertEqual(span.apart(), (place, columns))
        self.assertEqual(span.take([[1], []]), [[1], [0, -1], [-1, 1]])

    def test_vectors_changed_before_anything_else_is_asked(self):
        one, other = [[1], [0, 1]], [[1], [1]]
        span = Span(2)
        span.take(one)
        one[0][0] = 5
        one[1].append(5)
        self.assertEqual(span.take([[0, 1], [0, 0, 1]]), [[0, -1], [1]])
        span.take(other)
        other[0].clear()
        self.assertEqual(span.take([[1], []]), [[1], [0, -1], [-1, 1]])

    def test_lists_that_were_told(self):
        span = Span(2)
        span.take([[1], [0, 1]])
        span.take([[1], [1]])
        told = span.take([[1], []])
        wanted = copy.deepcopy(told)
        for poly in told:
            poly.append(9)
        told.clear()
        self.assertEqual(span.take([[1], []]), wanted)
        nought = span.take([[], []])
        for poly in nought:
            poly.append(9)
        self.assertEqual(nought, [[9], [9], [1, 9]])
        self.assertEqual(span.take([[], []]), [[], [], [1]])

    def test_columns_that_were_told(self):
        span = Span(2)
        early = span.apart()
        span.take([[1], [0, 1]])
        told = span.apart()
        self.assertEqual(early[1], [])
        told[1].append(7)
        is_apart(self, span.apart(), [[[1], [0, 1]]], 2)
        span.take([[1], [1]])
        is_apart(self, span.apart(), [[[1], [0, 1]], [[1], [1]]], 2)
        self.assertEqual(len(told[1]), 2)

    def test_two_spans(self):
        one, other = Span(1), Span(1)
        one.take([[1]])
        self.assertIsNone(other.take([[2]]))
        self.assertEqual(one.take([[2]]), [[-2], [1]])
        self.assertEqual(other.take([[1]]), [[-1], [2]])

    def test_relation(self):
        vectors = [[[1], [0, 1]], [[1], [1]], [[1], []]]
        mine = copy.deepcopy(vectors)
        told = relation(mine)
        self.assertEqual(mine, vectors)
        for poly in told:
            poly.append(9)
        self.assertEqual(mine, vectors)
        self.assertEqual(relation(mine), [[1], [0, -1], [-1, 1]])


class Relation(unittest.TestCase):
    def test_of_no_vectors(self):
        self.assertIsNone(relation([]))

    def test_none_hangs(self):
        self.assertIsNone(relation([[[1]]]))
        self.assertIsNone(relation([[[1], []], [[1], [1]]]))
        self.assertIsNone(relation([[[0, 1], [1]], [[1], [0, 1]]]))
        self.assertIsNone(relation([unit(40, i, [-i, 1]) for i in range(40)]))

    def test_the_first_that_hangs(self):
        one, other = [[1], [0, 1], []], [[0, 1], [1], []]
        self.assertEqual(relation([one, one, other]), [[-1], [1]])
        self.assertEqual(relation([one, other, one, other]), [[-1], [], [1]])
        self.assertEqual(relation([one, other, other, one]), [[], [-1], [1]])
        self.assertEqual(relation([one, other, [[], [], [1]], [[1, 1], [1, 1], [5]]]), [[-1], [-1], [-5], [1]])

    def test_nought_hangs_by_itself(self):
        self.assertEqual(relation([[[]]]), [[1]])
        self.assertEqual(relation([[[], []], [[1], [1]]]), [[1]])
        self.assertEqual(relation([[[1], [1]], [[], []], [[1], [1]]]), [[], [1]])

    def test_width_0(self):
        self.assertEqual(relation([[]]), [[1]])
        self.assertEqual(relation([[], [], []]), [[1]])

    def test_more_vectors_than_the_width_always_hang(self):
        rng = dice(8)
        for width in range(8):
            vectors = [any_vector(rng, width, 3, 1) for _ in range(width + 1)]
            told = relation(vectors)
            is_relation(self, vectors[:len(told)], told)
            self.assertIsNone(relation(vectors[:len(told) - 1]))

    def test_three_hundred_vectors(self):
        self.assertEqual(relation([[[i + 1]] for i in range(300)]), [[-2], [1]])


if __name__ == "__main__":
    unittest.main()
