"""Rows out of rows, and ready rows."""

from sumcraft.errors import NoPlace, TooGreat
from sumcraft.joins import plus_rule, summed_rule, times_rule
from sumcraft.polys import poly_times, poly_value, shifted, trimmed
from sumcraft.ratios import added, multiplied
from sumcraft.rows import Row
from sumcraft.rules import need_of

FARTHEST_AHEAD = 60
MOST_NUMBERS = 5


def row_plus(one, other):
    """The row with the sum of the two values at each place."""
    rule = plus_rule(one.told()[0], other.told()[0])
    return Row(rule, [added(one.at(n), other.at(n)) for n in range(need_of(rule))])


def row_times(one, other):
    """The row with the product of the two values at each place."""
    rule = times_rule(one.told()[0], other.told()[0])
    return Row(rule, [multiplied(one.at(n), other.at(n)) for n in range(need_of(rule))])


def row_sums(one):
    """The row with the sum of all values from place 0 up to each place."""
    rule = summed_rule(one.told()[0])
    first = []
    so_far = (0, 1)
    for n in range(need_of(rule)):
        so_far = added(so_far, one.at(n))
        first.append(so_far)
    return Row(rule, first)


def row_ahead(one, by):
    """The row with the value that lies by places ahead, at each place."""
    if by < 0 or by > FARTHEST_AHEAD:
        raise NoPlace(f"a row is moved on by 0 to {FARTHEST_AHEAD} places")
    rule = [shifted(poly, by) for poly in one.told()[0]]
    return Row(rule, [one.at(n + by) for n in range(need_of(rule))])


def row_scaled(one, fraction):
    """The row with each value times the fraction."""
    told = one.told()
    return Row(told[0], [multiplied(value, fraction) for value in told[1]])


def poly_row(poly):
    """The row with the polynomial's value at each place."""
    if len(poly) > MOST_NUMBERS:
        raise TooGreat(f"a row is made of a polynomial of {MOST_NUMBERS} numbers at most")
    # Each step takes the differences once more; behind as many steps as there are numbers nothing is left.
    steps = [1]
    for number in poly:
        steps = poly_times(steps, [-1, 1])
    return Row([[step] for step in steps], [(poly_value(poly, n), 1) for n in range(len(poly))])


def power_row(fraction):
    """The row with the fraction to the power n at each place n; 0 to the power 0 is 1."""
    return Row([trimmed([-fraction[0]]), [fraction[1]]], [(1, 1)])
