"""Rules, the first ones that they need, the values that keep them and those that they lead to."""

from sumcraft.errors import NoPlace, NoRule, NotKept, TooFew
from sumcraft.polys import poly_value
from sumcraft.ratios import divisor, ratio
from sumcraft.reaches import reach


def order_of(rule):
    """The number of the rule's polynomials less one."""
    if len(rule) == 0 or len(rule[-1]) == 0:
        raise NoRule("a rule has a last polynomial that is not nought")
    for poly in rule:
        if len(poly) > 0 and poly[-1] == 0:
            raise NoRule("no polynomial of a rule ends with 0")
    return len(rule) - 1


def need_of(rule):
    """How many first ones the rule needs."""
    order = order_of(rule)
    return order + reach(rule[-1])


def weighted(weight, fraction):
    """A whole number times a fraction."""
    # Top and bottom of the fraction share nothing, so a divisor with the weight, mostly a short one, is enough.
    shared = divisor(weight, fraction[1])
    return (weight // shared * fraction[0], fraction[1] // shared)


def parted(fraction, number):
    """A fraction divided by a whole number that is not 0."""
    shared = divisor(fraction[0], number)
    if number < 0:
        shared = -shared
    return (fraction[0] // shared, fraction[1] * (number // shared))


def total(fractions):
    """The sum of fractions."""
    live = [fraction for fraction in fractions if fraction[0] != 0]
    # A long fraction that stands alone is in lowest terms already; to look for it again would cost most of the time.
    if len(live) == 1:
        return live[0]
    bottom = 1
    for fraction in live:
        bottom *= fraction[1] // divisor(bottom, fraction[1])
    return ratio(sum([fraction[0] * (bottom // fraction[1]) for fraction in live]), bottom)


def rule_sum(rule, values, n):
    """The sum of the rule's polynomials at n times the values from n on, as far as there are values."""
    ahead = values[n:n + len(rule)]
    return total([weighted(poly_value(poly, n), value) for poly, value in zip(rule, ahead)])


def keeps(rule, values, n):
    """Whether the values keep the rule at n."""
    order = order_of(rule)
    if n < 0 or n + order >= len(values):
        raise NoPlace("the values can not be asked at this place")
    return rule_sum(rule, values, n) == (0, 1)


def check_first(rule, first):
    """Refuses a rule and first ones of which no row is made."""
    need = need_of(rule)
    if len(first) < need:
        raise TooFew(f"the rule needs {need} first ones")
    for n in range(len(first) - order_of(rule)):
        if not keeps(rule, first, n):
            raise NotKept(n)


def next_value(rule, values):
    """The value behind the values, which are as many as the rule needs at least."""
    n = len(values) - order_of(rule)
    return parted(rule_sum(rule, values, n), -poly_value(rule[-1], n))


def carried_on(rule, first, many):
    """The first many values of the row of this rule and these first ones."""
    check_first(rule, first)
    values = list(first)
    while len(values) < many:
        values.append(next_value(rule, values))
    return values[:max(many, 0)]
