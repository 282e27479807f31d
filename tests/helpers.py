"""What several test files use: numbers of many figures, refusals, and slow ways to reckon the same."""

import random
from fractions import Fraction
from math import gcd

SIXTY = 10 ** 59 + 7
THREE_HUNDRED = 10 ** 299 + 9


def dice(seed):
    """Numbers that look like chance, the same in each run."""
    return random.Random(seed)


def any_number(rng, figures):
    return rng.randrange(-10 ** figures + 1, 10 ** figures)


def any_poly(rng, size, figures):
    """A polynomial of exactly size numbers."""
    if size == 0:
        return []
    last = rng.choice([-1, 1]) * rng.randrange(1, 10 ** figures)
    return [any_number(rng, figures) for _ in range(size - 1)] + [last]


def refused(case, error, function, *handed):
    """The error with which the call is refused, which must be of this very class."""
    with case.assertRaises(error) as caught:
        function(*handed)
    case.assertIs(type(caught.exception), error)
    return caught.exception


def plain_times(one, other):
    if not one or not other:
        return []
    return [
        sum(one[i] * other[place - i] for i in range(len(one)) if 0 <= place - i < len(other))
        for place in range(len(one) + len(other) - 1)
    ]


def plain_value(poly, n):
    return sum(number * n ** power for power, number in enumerate(poly))


def monic_rest(one, other):
    """The rest of one divided by other, with fractions."""
    rest = list(one)
    while len(rest) >= len(other):
        factor = Fraction(rest[-1]) / other[-1]
        low = len(rest) - len(other)
        for place, number in enumerate(other):
            rest[low + place] -= factor * number
        while rest and rest[-1] == 0:
            rest.pop()
    return rest


def plain_common(one, other):
    """The common of two polynomials by the steps of Euclid with fractions."""
    whole = gcd(*one, *other)
    a, b = [Fraction(x) for x in one], [Fraction(x) for x in other]
    while b:
        a, b = b, monic_rest(a, b)
    if not a:
        return []
    bottoms = 1
    for x in a:
        bottoms = bottoms * x.denominator // gcd(bottoms, x.denominator)
    tops = [int(x * bottoms) for x in a]
    inner = gcd(*tops) * (1 if tops[-1] > 0 else -1)
    return [whole * x // inner for x in tops]
