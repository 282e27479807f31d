"""Two rows held against one another, at all places at once."""

from sumcraft.made import row_plus, row_scaled


def row_gap(one, other):
    """The row of the one less the other."""
    return row_plus(one, row_scaled(other, (-1, 1)))


def held_against(one, other):
    """("same", many), or ("unlike", place, x, y) with the first place at which the rows are unlike, and the values."""
    first = row_gap(one, other).told()[1]
    for place, value in enumerate(first):
        if value[0] != 0:
            return ("unlike", place, one.at(place), other.at(place))
    # The gap's rule leads from so many noughts to noughts alone.
    return ("same", len(first))
