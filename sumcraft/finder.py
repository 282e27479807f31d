"""A rule for the sum of a term, and what shows it."""

from sumcraft.errors import NoEnds, TooGreat
from sumcraft.pairs import by_k, degree_in_k, pair_moved, pair_plus, pair_times
from sumcraft.parts import low_forms
from sumcraft.spans import relation

GREATEST_BREADTH = 2
GREATEST_HEIGHT = 5
GREATEST_LENGTH = 8


def has_ends(term):
    """Whether the worths end at both sides: at k = 0 and behind k = n."""
    lows = []
    for part in term.told():
        if part[0] == "choose":
            lows.extend(low_forms(part[1], part[2]))
    falls = any([low[1] < 0 and low[0] + low[1] <= 0 and low[1] + low[2] < 0 for low in lows])
    begins = any([low[0] == 0 and 0 <= low[2] < low[1] for low in lows])
    return falls and begins


def degree_in_n(pair):
    """The greatest power of n; 0 for nought."""
    return max([powers[0] for powers in pair], default=0)


def product_degree(pairs, degree):
    """The degree of a product of polynomials of n and k; degree tells that of each."""
    # The degrees of factors add up, but for nought: so no long product is made for a term that is too great.
    if {} in pairs:
        return 0
    return sum([degree(pair) for pair in pairs])


def steps_degree(term, far, degree):
    """The greatest degree of S_0 .. S_far."""
    return max([product_degree([piece.step(i, far) for piece in term.pieces], degree) for i in range(far + 1)])


def ends_degree(term, far, degree):
    """The greater of the degrees of A and B."""
    up = product_degree([piece.up(far) for piece in term.pieces], degree)
    down = product_degree([piece.down(far) for piece in term.pieces], degree)
    return max(up, down)


def breadth_of(term):
    """The greater of the degrees in k of A and B."""
    return ends_degree(term, 0, degree_in_k)


def height_of(term, far):
    """The greatest degree in k of S_0 .. S_far."""
    return steps_degree(term, far, degree_in_k)


def length_of(term, far):
    """The greatest degree in n of S_0 .. S_far, A and B."""
    return max(steps_degree(term, far, degree_in_n), ends_degree(term, far, degree_in_n))


def check_term(term):
    """Refuses a term of whose sum no rule is found."""
    if not has_ends(term):
        raise NoEnds("the term has no ends")
    breadth = breadth_of(term)
    if breadth > GREATEST_BREADTH:
        raise TooGreat(f"the term's breadth is above {GREATEST_BREADTH}")
    if height_of(term, breadth) > GREATEST_HEIGHT:
        raise TooGreat(f"the term's height is above {GREATEST_HEIGHT}")
    if length_of(term, breadth) > GREATEST_LENGTH:
        raise TooGreat(f"the term's length is above {GREATEST_LENGTH}")


def move(up, down, power):
    """- (A(n, k) (k + 1)^t - B(n, k - 1) k^t), t being the power."""
    ahead = up
    behind = pair_moved(down, 0, -1)
    for step in range(power):
        ahead = pair_times(ahead, {(0, 1): 1, (0, 0): 1})
        behind = pair_times(behind, {(0, 1): 1})
    return pair_plus(behind, pair_times(ahead, {(0, 0): -1}))


def vectors_of(pairs):
    """The polynomials told by powers of k, filled up to one width."""
    told = [by_k(pair) for pair in pairs]
    width = max([len(vector) for vector in told])
    return [vector + [[] for lacking in range(width - len(vector))] for vector in told]


def found_for(term, far):
    """The rule and the q that are found for this far, as a tuple; None where none is."""
    frame = term.frame(far)
    many = max(height_of(term, far) - breadth_of(term) + 2, 0)
    moves = [move(frame[1], frame[2], power) for power in range(many)]
    # No move hangs on those ahead of it, so the first vector that hangs is one of the steps.
    found = relation(vectors_of(moves + frame[0]))
    return None if found is None else (found[many:], found[:many])


def searched(term):
    """The rule of the term's sum, the far for which it is found, and the q that shows it."""
    check_term(term)
    far = 0
    found = found_for(term, far)
    # This ends: for far = breadth there are height + 3 vectors, and they are height + 2 polynomials wide at most.
    while found is None:
        far += 1
        found = found_for(term, far)
    return (found[0], far, found[1])
