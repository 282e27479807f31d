"""Terms: products of parts, with their worths, floors and frames."""

from sumcraft.errors import NoTerm
from sumcraft.pairs import pair_product
from sumcraft.parts import Choose, Growth, Power, Weight, low_forms
from sumcraft.ratios import divisor

MOST_PARTS = 6
# The least and the greatest of each number of a choose's forms.
UPPER_LEAST = (0, 0, 0)
LOWER_LEAST = (-3, -3, -9)
GREATEST = (3, 3, 9)


def within(form, least):
    """Whether each number of a form of a choose lies between its bounds."""
    return all([low <= number <= high for low, number, high in zip(least, form, GREATEST)])


def check_choose(upper, lower):
    """Refuses the forms of a choose that stands in no term."""
    if not within(upper, UPPER_LEAST) or not within(lower, LOWER_LEAST):
        raise NoTerm("a number of a choose lies beyond its bounds")
    for low in low_forms(upper, lower):
        if low[0] == 0 and low[1] < 0:
            raise NoTerm("a low form of a choose falls with k, whatever n is")


def check_base(fraction):
    """Refuses the fraction 0 in a power or growth."""
    if fraction[0] == 0:
        raise NoTerm("no power and no growth of 0")


def piece_of(part):
    """The part of this tuple."""
    if part[0] == "choose":
        check_choose(part[1], part[2])
        return Choose(part[1], part[2])
    if part[0] == "weight":
        return Weight(part[1])
    if part[0] == "power":
        check_base(part[1])
        return Power(part[1])
    if part[0] == "growth":
        check_base(part[1])
        return Growth(part[1])
    raise NoTerm("no part begins with this word")


def product(fractions):
    """The product of fractions."""
    top = 1
    bottom = 1
    for fraction in fractions:
        # Both are in lowest terms, so all that they share lies across; these divisors are of shorter numbers.
        left = divisor(top, fraction[1])
        right = divisor(fraction[0], bottom)
        top = (top // left) * (fraction[0] // right)
        bottom = (bottom // right) * (fraction[1] // left)
    return (top, bottom)


class Term:
    """The product of one to six parts."""

    def __init__(self, parts):
        if len(parts) == 0 or len(parts) > MOST_PARTS:
            raise NoTerm(f"a term has one to {MOST_PARTS} parts")
        self.parts = list(parts)
        self.pieces = [piece_of(part) for part in parts]

    def told(self):
        """The parts as they were handed in."""
        return list(self.parts)

    def worth(self, n, k):
        """The worth at n and k."""
        return product([piece.worth(n, k) for piece in self.pieces])

    def floor(self, n, k, far):
        """The floor H of the frame for far, at n and k."""
        return product([piece.floor(n, k, far) for piece in self.pieces])

    def frame(self, far):
        """The frame for far: S_0 .. S_far, A and B."""
        steps = [pair_product([piece.step(i, far) for piece in self.pieces]) for i in range(far + 1)]
        up = pair_product([piece.up(far) for piece in self.pieces])
        down = pair_product([piece.down(far) for piece in self.pieces])
        return (steps, up, down)
