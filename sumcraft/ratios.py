"""Whole numbers and fractions; a fraction is a tuple (top, bottom) in lowest terms, bottom from 1 on."""

from sumcraft.errors import NoNumber

# From so many bits on a pass of shortened costs less than the plain steps that it saves.
LONG = 4000
# How many leading bits a pass of shortened looks at: even, and well below LONG.
WINDOW = 300


def shortened(big, small):
    """Two shorter numbers with the same divisor as big and small, where big has more than WINDOW bits."""
    # The steps are found from the leading bits alone, so they may be other ones than those of the whole numbers.
    # That does no harm: their table has the determinant 1 or -1, and such a table keeps the divisor.
    cut = big.bit_length() - WINDOW
    ahead = big >> cut
    behind = small >> cut
    half = 1 << (WINDOW // 2)
    upper = (1, 0)
    lower = (0, 1)
    while behind >= half:
        times = ahead // behind
        rest = ahead - times * behind
        ahead = behind
        behind = rest
        further = (upper[0] - times * lower[0], upper[1] - times * lower[1])
        upper = lower
        lower = further
    return (abs(upper[0] * big + upper[1] * small), abs(lower[0] * big + lower[1] * small))


def divisor(one, other):
    """The greatest number that divides both, without a sign; of 0 and 0 it is 0."""
    big = abs(one)
    small = abs(other)
    while small.bit_length() > LONG:
        # The plain step ahead makes sure that each pass gets on, also where big and small differ much in length.
        pair = shortened(small, big % small)
        big = pair[0]
        small = pair[1]
    while small != 0:
        rest = big % small
        big = small
        small = rest
    return big


def ratio(top, bottom):
    """The fraction of two whole numbers."""
    if bottom == 0:
        raise NoNumber("no fraction has a bottom of 0")
    shared = divisor(top, bottom)
    if bottom < 0:
        shared = -shared
    return (top // shared, bottom // shared)


def added(one, other):
    """The sum of two fractions."""
    return ratio(one[0] * other[1] + other[0] * one[1], one[1] * other[1])


def taken(one, other):
    """The one fraction less the other."""
    return ratio(one[0] * other[1] - other[0] * one[1], one[1] * other[1])


def multiplied(one, other):
    """The product of two fractions."""
    return ratio(one[0] * other[0], one[1] * other[1])


def divided(one, other):
    """The one fraction by the other."""
    # A quotient by the fraction 0 comes to a bottom of 0, so it is refused as that is.
    return ratio(one[0] * other[1], one[1] * other[0])
