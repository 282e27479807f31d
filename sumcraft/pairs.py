"""Polynomials of n and k: dicts from (i, j) to the number of n to the power i times k to the power j."""

from sumcraft.polys import poly_value, shifted, trimmed


def bare(pair):
    """The dict without the noughts."""
    return dict([(powers, number) for powers, number in pair.items() if number != 0])


def pair_plus(one, other):
    """The sum of two polynomials of n and k."""
    answer = dict(one)
    for powers, number in other.items():
        answer[powers] = answer.get(powers, 0) + number
    return bare(answer)


def pair_times(one, other):
    """The product of two polynomials of n and k."""
    answer = {}
    for low, number in one.items():
        for high, factor in other.items():
            powers = (low[0] + high[0], low[1] + high[1])
            answer[powers] = answer.get(powers, 0) + number * factor
    return bare(answer)


def pair_of_form(form):
    """The form (a, b, c) as a polynomial: a n + b k + c."""
    return bare({(1, 0): form[0], (0, 1): form[1], (0, 0): form[2]})


def degree_in_k(one):
    """The greatest power of k; 0 for nought."""
    return max([powers[1] for powers in one], default=0)


def by_k(one):
    """The polynomials of n by the powers of k, lowest first; none for nought."""
    if len(one) == 0:
        return []
    width = 1 + max([powers[0] for powers in one])
    table = [[0] * width for power in range(degree_in_k(one) + 1)]
    for powers, number in one.items():
        table[powers[1]][powers[0]] = number
    return [trimmed(numbers) for numbers in table]


def turned(one):
    """The polynomial with n in the place of k and k in the place of n."""
    return dict([((powers[1], powers[0]), number) for powers, number in one.items()])


def moved_in_n(one, by):
    """The polynomial with n + by in the place of n."""
    answer = {}
    for high, poly in enumerate(by_k(one)):
        for low, number in enumerate(shifted(poly, by)):
            answer[(low, high)] = number
    return bare(answer)


def pair_moved(one, a, b):
    """The polynomial with n + a in the place of n and k + b in the place of k."""
    return turned(moved_in_n(turned(moved_in_n(one, a)), b))


def pair_value(one, n, k):
    """The value at n and k."""
    return poly_value([poly_value(poly, n) for poly in by_k(one)], k)


def pair_product(pairs):
    """The product of all polynomials of a list; 1 where there is none."""
    answer = {(0, 0): 1}
    for pair in pairs:
        answer = pair_times(answer, pair)
    return answer
