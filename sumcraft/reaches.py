"""What polynomials have in common, and from where on they are clear of 0."""

from sumcraft.errors import NoNumber, TooGreat
from sumcraft.polys import poly_value, quotient, shifted
from sumcraft.ratios import divisor

FARTHEST = 60


def content(poly):
    """The greatest whole number that divides all numbers of the polynomial; of [] it is 0."""
    answer = 0
    for number in poly:
        answer = divisor(number, answer)
    return answer


def over(poly, number):
    """The polynomial with each of its numbers divided by a whole number that divides them all."""
    return [top // number for top in poly]


def upright(poly):
    """The polynomial, or the one with all signs changed, so that its last number is above 0."""
    if len(poly) > 0 and poly[-1] < 0:
        return [-number for number in poly]
    return list(poly)


def spread(number, base):
    """The polynomial whose value at base is the number, its numbers at most half of base in size."""
    answer = []
    while number != 0:
        low = number % base
        if 2 * low > base:
            low -= base
        answer.append(low)
        number = (number - low) // base
    return answer


def greatest_size(poly):
    """The size of the greatest number of a polynomial that is not []."""
    return max([abs(number) for number in poly])


def bare_common(one, other):
    """The common of two polynomials, neither of them [], whose contents are 1."""
    # The common's value at a place divides the divisor of the two values there. At a great place it mostly is that
    # divisor but for a small factor, and the numbers of the common can be read off it.
    # What was read off and divides both lacks nothing: a factor that it lacked would divide one of the two, whose
    # numbers are less than half of place - 2, so its value there would be above place / 2; but this value would
    # divide all numbers that were spread, and they are place / 2 at most.
    place = 2 * min(greatest_size(one), greatest_size(other)) + 29
    while True:
        found = spread(divisor(poly_value(one, place), poly_value(other, place)), place)
        found = over(found, content(found))
        if quotient(one, found) is not None and quotient(other, found) is not None:
            return found
        # The needless factor of the divisor has a bound that is the same at all places: one far enough ends this.
        place = place * place + 1


def common(one, other):
    """The polynomial that divides both and is divided by each that does, last number above 0."""
    if len(one) == 0:
        return upright(other)
    if len(other) == 0:
        return upright(one)
    first = content(one)
    second = content(other)
    shared = divisor(first, second)
    return [shared * number for number in bare_common(over(one, first), over(other, second))]


def common_of(polys):
    """The common of all polynomials of a list; of none it is []."""
    answer = []
    for poly in polys:
        answer = common(answer, poly)
    return answer


def clear(poly, m):
    """Whether the polynomial, shifted by m, has a first number that is not 0 and no two of unlike signs."""
    moved = shifted(poly, m)
    if len(moved) == 0 or moved[0] == 0:
        return False
    return min(moved) >= 0 or max(moved) <= 0


def reach(poly):
    """The least m from which the polynomial is clear."""
    if len(poly) == 0:
        raise NoNumber("the polynomial nought is clear from nowhere")
    for m in range(FARTHEST + 1):
        if clear(poly, m):
            return m
    raise TooGreat(f"no reach up to {FARTHEST}")
