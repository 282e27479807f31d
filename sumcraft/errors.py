"""The refusals: each has a class of its own, straight under SumError."""


class SumError(ValueError):
    """Any refusal."""


class NoNumber(SumError):
    """A bottom of 0, a quotient by nought, or the reach of nought."""


class NoRule(SumError):
    """A list of lists of whole numbers that is no rule."""


class TooFew(SumError):
    """Fewer first ones than the rule needs."""


class NotKept(SumError):
    """First ones that do not keep the rule; place is the first place at which they do not."""

    def __init__(self, place):
        SumError.__init__(self, f"the rule is not kept at place {place}")
        self.place = place


class TooGreat(SumError):
    """Something above the bound that is told for it."""


class NoPlace(SumError):
    """A place outside those that can be asked for."""


class NoTerm(SumError):
    """Parts that make no term, or a text that is none."""


class NoEnds(SumError):
    """A term without ends, of whose sum no rule is found."""


class NoLine(SumError):
    """A text that is not written as the desk's lines are."""


class NoName(SumError):
    """A name by which no row stands."""
