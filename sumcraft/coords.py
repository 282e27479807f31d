"""Coords: a value far ahead, told by as many values as the order of the rule."""

from sumcraft.polys import poly_less, poly_times, shifted
from sumcraft.rules import order_of


def further(rule, tops):
    """The u of the coords of the next number, of the u of the coords of a number from order - 1 on."""
    moved = [shifted(top, 1) for top in tops]
    ahead = [[]] + moved[:-1]
    weight = moved[-1]
    return [
        poly_less(poly_times(rule[-1], before), poly_times(weight, poly))
        for before, poly in zip(ahead, rule)
    ]


def coords(rule, far):
    """The coords (u, d) of far: d(n) a(n + far) is the sum of all u_i(n) a(n + i) for each row that keeps the rule."""
    order = order_of(rule)
    start = min(far, order - 1)
    tops = [[1] if place == start else [] for place in range(order)]
    bottom = [1]
    for step in range(far - order + 1):
        if order > 0:
            tops = further(rule, tops)
        bottom = poly_times(bottom, shifted(rule[-1], step))
    return (tops, bottom)
