"""Rows: a fraction for each place from 0 on, told by a rule and first ones."""

from sumcraft.errors import NoPlace
from sumcraft.rules import check_first, need_of, next_value

FARTHEST_PLACE = 400


class Row:
    """The one row that begins with the first ones and keeps the rule at every place."""

    def __init__(self, rule, first):
        self.rule = [list(poly) for poly in rule]
        self.known = list(first)
        check_first(self.rule, self.known)

    def at(self, n):
        """The value at a place from 0 to 400."""
        if n < 0 or n > FARTHEST_PLACE:
            raise NoPlace(f"a row tells its values at places from 0 to {FARTHEST_PLACE}")
        while len(self.known) <= n:
            self.known.append(next_value(self.rule, self.known))
        return self.known[n]

    def told(self):
        """The rule as it was handed in, and as many values as it needs."""
        return ([list(poly) for poly in self.rule], self.known[:need_of(self.rule)])
