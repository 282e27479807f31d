"""The parts of a term: each has worths, and gives its share to the term's frame and floor."""

from sumcraft.pairs import pair_of_form, pair_product
from sumcraft.ratios import ratio

# A product of so few numbers is not halved any more.
FEW = 16


def form_value(form, n, k):
    """The value of a form at n and k."""
    return form[0] * n + form[1] * k + form[2]


def raised(form, by):
    """The form whose value is higher by a whole number."""
    return (form[0], form[1], form[2] + by)


def raised_from(form, low, high):
    """The polynomials of the form + t, t from low to high."""
    return [pair_of_form(raised(form, t)) for t in range(low, high + 1)]


def low_forms(upper, lower):
    """The low forms of a choose: lower, and upper less lower."""
    return [lower, (upper[0] - lower[0], upper[1] - lower[1], upper[2] - lower[2])]


def power_of(number, exponent):
    """The number to the power of a whole number from 0 on."""
    answer = 1
    for step in range(exponent):
        answer *= number
    return answer


def run_product(low, high):
    """The product of all whole numbers from low to high; 1 where there is none."""
    if high - low < FEW:
        answer = 1
        for number in range(low, high + 1):
            answer *= number
        return answer
    # Two halves of like length are multiplied in far less time than a long number by a short one, many times.
    middle = (low + high) // 2
    return run_product(low, middle) * run_product(middle + 1, high)


def choices(one, other):
    """(one + other)! / (one! other!), both from 0 on."""
    few = min(one, other)
    return run_product(one + other - few + 1, one + other) // run_product(1, few)


class Part:
    """The part with worth 1."""

    def worth(self, n, k):
        """The worth at n and k."""
        return (1, 1)

    def step(self, i, far):
        """The share in S_i."""
        return {(0, 0): 1}

    def up(self, far):
        """The share in A."""
        return {(0, 0): 1}

    def down(self, far):
        """The share in B."""
        return {(0, 0): 1}

    def floor(self, n, k, far):
        """The share in H at n and k."""
        return (1, 1)


class Choose(Part):
    """The number of ways to choose the lower form's value out of the upper form's value of things."""

    def __init__(self, upper, lower):
        self.above = upper
        self.lows = low_forms(upper, lower)

    def lifted(self, far):
        """The low forms X', as high as they come for n + i with i from 0 to far."""
        return [raised(low, max(far * low[0], 0)) for low in self.lows]

    def worth(self, n, k):
        """The worth at n and k."""
        return self.floor(n, k, 0)

    def step(self, i, far):
        """The share in S_i."""
        factors = raised_from(self.above, 1, i * self.above[0])
        for low in self.lows:
            factors.extend(raised_from(low, i * low[0] + 1, max(far * low[0], 0)))
        return pair_product(factors)

    def up(self, far):
        """The share in A."""
        factors = raised_from(self.above, 1, self.above[1])
        for low in self.lifted(far):
            factors.extend(raised_from(low, low[1] + 1, 0))
        return pair_product(factors)

    def down(self, far):
        """The share in B."""
        factors = []
        for low in self.lifted(far):
            factors.extend(raised_from(low, 1, low[1]))
        return pair_product(factors)

    def floor(self, n, k, far):
        """The share in H at n and k."""
        above = form_value(self.above, n, k)
        below = [form_value(low, n, k) for low in self.lifted(far)]
        if min(below) < 0:
            return (0, 1)
        # The two below come to somewhat more than the one above. The choices out of so much are a whole number, and
        # only the few numbers between are left to divide by: no divisor of two long numbers is looked for.
        return ratio(choices(below[0], below[1]), run_product(max(above, 0) + 1, below[0] + below[1]))


class Weight(Part):
    """The value of a form."""

    def __init__(self, form):
        self.form = form

    def worth(self, n, k):
        """The worth at n and k."""
        return (form_value(self.form, n, k), 1)

    def step(self, i, far):
        """The share in S_i."""
        return pair_of_form(raised(self.form, i * self.form[0]))


class Power(Part):
    """A fraction to the power k."""

    def __init__(self, fraction):
        self.fraction = fraction

    def worth(self, n, k):
        """The worth at n and k."""
        return (power_of(self.fraction[0], k), power_of(self.fraction[1], k))

    def up(self, far):
        """The share in A."""
        return {(0, 0): self.fraction[0]}

    def down(self, far):
        """The share in B."""
        return {(0, 0): self.fraction[1]}

    def floor(self, n, k, far):
        """The share in H at n and k."""
        return self.worth(n, k)


class Growth(Part):
    """A fraction to the power n."""

    def __init__(self, fraction):
        self.fraction = fraction

    def worth(self, n, k):
        """The worth at n and k."""
        return (power_of(self.fraction[0], n), power_of(self.fraction[1], n))

    def step(self, i, far):
        """The share in S_i."""
        return {(0, 0): power_of(self.fraction[0], i) * power_of(self.fraction[1], far - i)}

    def floor(self, n, k, far):
        """The share in H at n and k."""
        return (power_of(self.fraction[0], n), power_of(self.fraction[1], n + far))
