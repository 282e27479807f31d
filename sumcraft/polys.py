"""Polynomials of n: lists of whole numbers, lowest power first, the last one not 0; [] is nought."""

from sumcraft.errors import NoNumber


def trimmed(numbers):
    """The list without the noughts at its end."""
    size = len(numbers)
    while size > 0 and numbers[size - 1] == 0:
        size -= 1
    return list(numbers[:size])


def poly_plus(one, other):
    """The sum of two polynomials."""
    answer = list(one) + [0] * (len(other) - len(one))
    for place, number in enumerate(other):
        answer[place] += number
    return trimmed(answer)


def poly_less(one, other):
    """The one polynomial less the other."""
    return poly_plus(one, [-number for number in other])


def poly_times(one, other):
    """The product of two polynomials."""
    if len(one) == 0 or len(other) == 0:
        return []
    answer = [0] * (len(one) + len(other) - 1)
    for low, number in enumerate(one):
        for place, factor in enumerate(other):
            answer[low + place] += number * factor
    return trimmed(answer)


def shifted(poly, by):
    """The polynomial whose value at n is that of poly at n + by."""
    answer = list(poly)
    for low in range(len(answer) - 1):
        for place in range(len(answer) - 2, low - 1, -1):
            answer[place] += by * answer[place + 1]
    return trimmed(answer)


def poly_value(poly, n):
    """The value of the polynomial at n."""
    answer = 0
    for number in reversed(poly):
        answer = answer * n + number
    return answer


def quotient(one, other):
    """The polynomial with whole numbers that, times the other, is the one; None where there is none."""
    if len(other) == 0:
        raise NoNumber("no quotient by the polynomial nought")
    rest = list(one)
    steps = max(0, len(one) - len(other) + 1)
    answer = [0] * steps
    for low in range(steps - 1, -1, -1):
        top = rest[low + len(other) - 1]
        factor = top // other[-1]
        if factor * other[-1] != top:
            return None
        answer[low] = factor
        for place, number in enumerate(other):
            rest[low + place] -= factor * number
    if len(trimmed(rest)) > 0:
        return None
    return answer
