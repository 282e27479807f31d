"""Rules out of rules: that of a sum, of a product, and of the sums of all values up to a place."""

from sumcraft.coords import coords
from sumcraft.errors import TooGreat
from sumcraft.polys import poly_plus, poly_times, quotient, shifted
from sumcraft.reaches import clear, common_of, content
from sumcraft.rules import order_of
from sumcraft.spans import relation

GREATEST_WORK = 32


def check_work(width, polys):
    """Refuses, ahead of all work, a width that is too great for polynomials as long as these."""
    if width * width * max([len(poly) for poly in polys]) > GREATEST_WORK:
        raise TooGreat(f"width times width times the longest polynomial comes to more than {GREATEST_WORK}")


def thinned(polys):
    """The polynomials, not all of them [], without what may be cancelled at all places from 0 on."""
    shared = common_of(polys)
    if not clear(shared, 0):
        shared = [content(shared)]
    if len(polys[-1]) > 0 and polys[-1][-1] < 0:
        shared = [-number for number in shared]
    return [quotient(poly, shared) for poly in polys]


def joined(vectors, weights):
    """The new rule, of the vectors and weights of the numbers from 0 on: enough of them to hang together."""
    found = relation(vectors)
    return thinned([poly_times(poly, weight) for poly, weight in zip(found, weights)])


def of_two(one, other, width, vector_of):
    """The rule of rows made of two rows; vector_of tells the vector of a number from its coords for both rules."""
    check_work(width, one + other)
    vectors = []
    weights = []
    for number in range(width + 1):
        left = coords(one, number)
        right = coords(other, number)
        vectors.append(vector_of(left, right))
        weights.append(poly_times(left[1], right[1]))
    return joined(vectors, weights)


def plus_vector(left, right):
    """The vector of a number for plus."""
    ahead = [poly_times(top, right[1]) for top in left[0]]
    behind = [poly_times(top, left[1]) for top in right[0]]
    return ahead + behind


def times_vector(left, right):
    """The vector of a number for times."""
    answer = []
    for top in left[0]:
        answer.extend([poly_times(top, factor) for factor in right[0]])
    return answer


def plus_rule(one, other):
    """The rule of the sum of two rows that keep these rules."""
    return of_two(one, other, order_of(one) + order_of(other), plus_vector)


def times_rule(one, other):
    """The rule of the product of two rows that keep these rules."""
    return of_two(one, other, order_of(one) * order_of(other), times_vector)


def summed_rule(one):
    """The rule of the sums of all values up to a place, of a row that keeps this rule."""
    order = order_of(one)
    check_work(order + 1, one)
    vector = [[1]] + [[] for place in range(order)]
    weight = [1]
    vectors = [vector]
    weights = [weight]
    for number in range(1, order + 2):
        factor = shifted(one[-1], number - order) if number >= order else [1]
        grown = [poly_times(poly, factor) for poly in vector]
        tops = [[]] + coords(one, number)[0]
        vector = [poly_plus(poly, top) for poly, top in zip(grown, tops)]
        weight = poly_times(weight, factor)
        vectors.append(vector)
        weights.append(weight)
    return joined(vectors, weights)
