"""Slow ways to reckon with polynomials of two unknowns and with terms, word for word as the document tells them."""

from fractions import Fraction
from math import comb, factorial, gcd

from helpers import SIXTY, any_number


def bare(pair):
    return {powers: number for powers, number in pair.items() if number != 0}


def plain_pair_value(pair, n, k):
    return sum(number * n ** i * k ** j for (i, j), number in pair.items())


def plain_pair_plus(one, other):
    return bare({powers: one.get(powers, 0) + other.get(powers, 0) for powers in {**one, **other}})


def plain_pair_times(one, other):
    answer = {}
    for (i, j), number in one.items():
        answer = plain_pair_plus(answer, {(i + p, j + q): number * factor for (p, q), factor in other.items()})
    return answer


def plain_pair_moved(pair, a, b):
    answer = {}
    for (i, j), number in pair.items():
        for p in range(i + 1):
            for q in range(j + 1):
                part = number * comb(i, p) * a ** (i - p) * comb(j, q) * b ** (j - q)
                answer[(p, q)] = answer.get((p, q), 0) + part
    return bare(answer)


def plain_product(pairs):
    answer = {(0, 0): 1}
    for pair in pairs:
        answer = plain_pair_times(answer, pair)
    return answer


def form_pair(form, by=0):
    return bare({(1, 0): form[0], (0, 1): form[1], (0, 0): form[2] + by})


def form_at(form, n, k):
    return form[0] * n + form[1] * k + form[2]


def low_forms_of(part):
    return [part[2], tuple(u - x for u, x in zip(part[1], part[2]))]


def plain_part_worth(part, n, k):
    if part[0] == "choose":
        top, low = form_at(part[1], n, k), form_at(part[2], n, k)
        if low < 0 or top - low < 0:
            return Fraction(0)
        return Fraction(factorial(top), factorial(low) * factorial(top - low))
    if part[0] == "weight":
        return Fraction(form_at(part[1], n, k))
    return Fraction(*part[1]) ** (k if part[0] == "power" else n)


def plain_part_floor(part, n, k, far):
    if part[0] == "choose":
        lows = [form_at(x, n, k) + (far * x[0] if x[0] > 0 else 0) for x in low_forms_of(part)]
        if min(lows) < 0:
            return Fraction(0)
        return Fraction(factorial(form_at(part[1], n, k)), factorial(lows[0]) * factorial(lows[1]))
    if part[0] == "weight":
        return Fraction(1)
    if part[0] == "power":
        return plain_part_worth(part, n, k)
    return plain_part_worth(part, n, k) / Fraction(part[1][1]) ** far


def plain_part_step(part, i, far):
    if part[0] == "choose":
        factors = [form_pair(part[1], t) for t in range(1, i * part[1][0] + 1)]
        for x in low_forms_of(part):
            end = 0 if x[0] < 0 else far * x[0]
            factors += [form_pair(x, t) for t in range(i * x[0] + 1, end + 1)]
        return plain_product(factors)
    if part[0] == "weight":
        return plain_pair_moved(form_pair(part[1]), i, 0)
    if part[0] == "power":
        return {(0, 0): 1}
    return {(0, 0): part[1][0] ** i * part[1][1] ** (far - i)}


def plain_part_ends(part, far):
    """A and B of a part."""
    if part[0] == "power":
        return {(0, 0): part[1][0]}, {(0, 0): part[1][1]}
    if part[0] != "choose":
        return {(0, 0): 1}, {(0, 0): 1}
    ups, downs = [form_pair(part[1], t) for t in range(1, part[1][1] + 1)], []
    for x in low_forms_of(part):
        lift = far * x[0] if x[0] > 0 else 0
        if x[1] < 0:
            ups += [form_pair(x, lift + t) for t in range(x[1] + 1, 1)]
        if x[1] > 0:
            downs += [form_pair(x, lift + t) for t in range(1, x[1] + 1)]
    return plain_product(ups), plain_product(downs)


def plain_worth(parts, n, k):
    answer = Fraction(1)
    for part in parts:
        answer *= plain_part_worth(part, n, k)
    return answer


def plain_floor(parts, n, k, far):
    answer = Fraction(1)
    for part in parts:
        answer *= plain_part_floor(part, n, k, far)
    return answer


def plain_frame(parts, far):
    steps = [plain_product([plain_part_step(part, i, far) for part in parts]) for i in range(far + 1)]
    ends = [plain_part_ends(part, far) for part in parts]
    return steps, plain_product([up for up, _ in ends]), plain_product([down for _, down in ends])


def choose_stands(upper, lower):
    """Whether the choose of these forms, within their bounds, may stand in a term."""
    return all(x[0] != 0 or x[1] >= 0 for x in low_forms_of(("choose", upper, lower)))


def any_choose(rng):
    """A choose that may stand in a term, any of the bounds."""
    while True:
        upper = (rng.randint(0, 3), rng.randint(0, 3), rng.randint(0, 9))
        lower = (rng.randint(-3, 3), rng.randint(-3, 3), rng.randint(-9, 9))
        if choose_stands(upper, lower):
            return ("choose", upper, lower)


def any_fraction(rng, figures):
    """A fraction that is not 0."""
    top, bottom = any_number(rng, figures) or 1, rng.randrange(1, 10 ** figures)
    return (top // gcd(top, bottom), bottom // gcd(top, bottom))


def any_part(rng, figures):
    """A part that may stand in a term, of each kind alike often."""
    kind = rng.choice(["choose", "weight", "power", "growth"])
    if kind == "choose":
        return any_choose(rng)
    if kind == "weight":
        return (kind, tuple(rng.choice([0, 1, -1, any_number(rng, figures)]) for _ in range(3)))
    return (kind, any_fraction(rng, figures))


CHOOSES = [
    ("choose", (1, 0, 0), (0, 1, 0)), ("choose", (1, 0, 0), (1, -1, 0)), ("choose", (1, 1, 0), (0, 1, 0)),
    ("choose", (2, 0, 0), (1, 0, 0)), ("choose", (2, 0, 1), (0, 2, 1)), ("choose", (0, 2, 0), (0, 1, 0)),
    ("choose", (1, 0, 0), (-1, 2, 0)), ("choose", (0, 3, 9), (-3, 3, 9)), ("choose", (3, 3, 9), (-3, -3, -9)),
    ("choose", (3, 3, 9), (3, 3, 9)), ("choose", (0, 0, 0), (0, 0, 0)), ("choose", (0, 0, 5), (0, 0, 2)),
    ("choose", (0, 0, 5), (0, 0, -1)), ("choose", (0, 0, 5), (0, 0, 9)), ("choose", (0, 0, 0), (3, -3, 0)),
    ("choose", (2, 3, 4), (1, -2, 3)), ("choose", (2, 1, 0), (-1, 3, -9)), ("choose", (1, 2, 3), (2, 1, -4)),
    ("choose", (3, 0, 0), (1, 0, 0)), ("choose", (0, 3, 0), (0, 0, 3)), ("choose", (1, 3, 0), (2, 2, 9)),
    ("choose", (1, 0, 2), (-2, 0, 9)), ("choose", (3, 1, 0), (3, 1, 0)),
]
WEIGHTS = [
    ("weight", (0, 0, 0)), ("weight", (0, 0, 1)), ("weight", (0, 0, -5)), ("weight", (1, 0, 0)),
    ("weight", (0, 1, 0)), ("weight", (1, -2, 0)), ("weight", (-3, 2, 7)), ("weight", (SIXTY, -SIXTY, SIXTY - 1)),
]
FRACTIONS = [(1, 1), (-1, 1), (2, 1), (1, 2), (-2, 3), (-7, 1), (SIXTY, SIXTY - 1), (-1, SIXTY)]
PARTS = (
    CHOOSES + WEIGHTS + [("power", fraction) for fraction in FRACTIONS] + [("growth", fraction) for fraction in FRACTIONS]
)
