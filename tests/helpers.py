"""What several test files use: numbers of many figures, refusals, and slow ways to reckon the same."""

import random
from fractions import Fraction
from math import comb, gcd

SIXTY = 10 ** 59 + 7
THREE_HUNDRED = 10 ** 299 + 9


def dice(seed):
    """Numbers that look like chance, the same in each run."""
    return random.Random(seed)


def any_number(rng, figures):
    return rng.randrange(-10 ** figures + 1, 10 ** figures)


def any_poly(rng, size, figures):
    """A polynomial of exactly size numbers."""
    if size == 0:
        return []
    last = rng.choice([-1, 1]) * rng.randrange(1, 10 ** figures)
    return [any_number(rng, figures) for _ in range(size - 1)] + [last]


def refused(case, error, function, *handed):
    """The error with which the call is refused, which must be of this very class."""
    with case.assertRaises(error) as caught:
        function(*handed)
    case.assertIs(type(caught.exception), error)
    return caught.exception


def plain_times(one, other):
    if not one or not other:
        return []
    return [
        sum(one[i] * other[place - i] for i in range(len(one)) if 0 <= place - i < len(other))
        for place in range(len(one) + len(other) - 1)
    ]


def plain_value(poly, n):
    return sum(number * n ** power for power, number in enumerate(poly))


def monic_rest(one, other):
    """The rest of one divided by other, with fractions."""
    rest = list(one)
    while len(rest) >= len(other):
        factor = Fraction(rest[-1]) / other[-1]
        low = len(rest) - len(other)
        for place, number in enumerate(other):
            rest[low + place] -= factor * number
        while rest and rest[-1] == 0:
            rest.pop()
    return rest


def plain_common(one, other):
    """The common of two polynomials by the steps of Euclid with fractions."""
    whole = gcd(*one, *other)
    a, b = [Fraction(x) for x in one], [Fraction(x) for x in other]
    while b:
        a, b = b, monic_rest(a, b)
    if not a:
        return []
    bottoms = 1
    for x in a:
        bottoms = bottoms * x.denominator // gcd(bottoms, x.denominator)
    tops = [int(x * bottoms) for x in a]
    inner = gcd(*tops) * (1 if tops[-1] > 0 else -1)
    return [whole * x // inner for x in tops]


def plain_plus(one, other):
    size = max(len(one), len(other))
    answer = [sum(poly[i] for poly in (one, other) if i < len(poly)) for i in range(size)]
    while answer and answer[-1] == 0:
        answer.pop()
    return answer


def plain_shifted(poly, by):
    return [
        sum(poly[power] * comb(power, place) * by ** (power - place) for power in range(place, len(poly)))
        for place in range(len(poly))
    ]


def pairs_of(numbers):
    """Fractions of the program's kind."""
    return [(Fraction(x).numerator, Fraction(x).denominator) for x in numbers]


def plain_rule_sum(rule, values, n):
    return sum(plain_value(poly, n) * values[n + i] for i, poly in enumerate(rule))


def plain_row(rule, first, many):
    """The first many values of a row, reckoned with Python's fractions."""
    values = [Fraction(x) for x in first]
    order = len(rule) - 1
    while len(values) < many:
        n = len(values) - order
        ahead = sum(plain_value(rule[i], n) * values[n + i] for i in range(order))
        values.append(Fraction(-ahead) / plain_value(rule[-1], n))
    return values[:many]


def minus(poly):
    return [-number for number in poly]


def plain_coords(rule, far):
    """The coords, word for word as the document tells them."""
    order = len(rule) - 1
    if far < order:
        return [[1] if i == far else [] for i in range(order)], [1]
    bottom = [1]
    for t in range(far - order + 1):
        bottom = plain_times(bottom, plain_shifted(rule[-1], t))
    if order == 0:
        return [], bottom
    v = [plain_shifted(poly, 1) for poly in plain_coords(rule, far - 1)[0]]
    w = v[-1]
    tops = [minus(plain_times(w, rule[0]))]
    for i in range(1, order):
        tops.append(plain_plus(plain_times(rule[-1], v[i - 1]), minus(plain_times(w, rule[i]))))
    return tops, bottom


def plain_quotient(one, other):
    """The quotient of polynomials where the other divides the one, with fractions on the way."""
    rest, answer = [Fraction(x) for x in one], [0] * max(0, len(one) - len(other) + 1)
    for low in range(len(answer) - 1, -1, -1):
        answer[low] = rest[low + len(other) - 1] / other[-1]
        for place, number in enumerate(other):
            rest[low + place] -= answer[low] * number
    assert not any(rest) and all(x.denominator == 1 for x in answer)
    return [int(x) for x in answer]


def plain_common_of(polys):
    shared = []
    for poly in polys:
        shared = plain_common(shared, poly) if shared or poly else []
    return shared


def plain_thinned(polys):
    """Thinned, word for word as the document tells it."""
    shared = plain_common_of(polys)
    if shared[0] == 0 or min(shared) < 0:
        shared = [gcd(*[number for poly in polys for number in poly])]
    answer = [plain_quotient(poly, shared) for poly in polys]
    if answer[-1] and answer[-1][-1] < 0:
        answer = [minus(poly) for poly in answer]
    return answer


def plain_relation(vectors):
    """The relation of the first vector that hangs on those ahead, by steps that leave no fraction."""
    width, kept = len(vectors[0]), []
    for number, vector in enumerate(vectors):
        row = list(vector) + [[1] if i == number else [] for i in range(len(vectors))]
        for base, column in kept:
            factor = minus(row[column])
            row = [plain_plus(plain_times(base[column], x), plain_times(factor, y)) for x, y in zip(row, base)]
            shared = plain_common_of(row)
            row = [plain_quotient(poly, shared) for poly in row]
        found = [column for column in range(width) if row[column]]
        if not found:
            weights = row[width:width + number + 1]
            return weights if weights[-1][-1] > 0 else [minus(poly) for poly in weights]
        kept.append((row, found[0]))
    return None


def determinant(table):
    """The determinant of a square table of whole numbers."""
    rows = [[Fraction(x) for x in row] for row in table]
    answer = Fraction(1)
    for step in range(len(rows)):
        found = [i for i in range(step, len(rows)) if rows[i][step] != 0]
        if not found:
            return 0
        if found[0] != step:
            rows[step], rows[found[0]] = rows[found[0]], rows[step]
            answer = -answer
        answer *= rows[step][step]
        for i in range(step + 1, len(rows)):
            factor = rows[i][step] / rows[step][step]
            if factor != 0:
                rows[i] = [x - factor * y for x, y in zip(rows[i], rows[step])]
    return answer


NO_RULES = [
    [], [[]], [[], []], [[1], []], [[0, 1], [1], []], [[0]], [[1, 0]], [[0], [1]], [[1, 0], [1]], [[1], [0]],
    [[1], [1, 0]], [[1], [0, 0], [1]], [[1], [5, 0], []], [[SIXTY, 0], [1]], [[1], [THREE_HUNDRED, 0]],
]
