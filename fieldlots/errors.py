"""The errors of Fieldlots. Each stands directly below LotError."""


class LotError(ValueError):
    """Any refusal of this program."""


class ZeroUnder(LotError):
    """A fraction or a quotient with 0 under the line."""


class BadNumber(LotError):
    """A number that is not allowed where it was passed."""

    def __init__(self, name, value):
        self.name = name
        self.value = value


class BadShares(LotError):
    """Shares of which one is negative or that do not add up to 1."""


class NoPlace(LotError):
    """An index, a state or a name that does not exist."""


class TooMany(LotError):
    """More of something than the most that is allowed."""

    def __init__(self, name, most):
        self.name = name
        self.most = most


class Mismatch(LotError):
    """Two things that do not fit each other."""


class BadSpread(LotError):
    """A value that is no spread on the ground."""


class NoLimit(LotError):
    """A column whose amount nothing limits."""

    def __init__(self, column):
        self.column = column


class NotTiled(LotError):
    """A part of a blend that does not fit into the fields of a table."""

    def __init__(self, part):
        self.part = part


class BadMove(LotError):
    """A play that the state of a match does not allow."""


class NothingLeft(LotError):
    """Nothing is there to take back or to play again."""


class NeverSeen(LotError):
    """Spreads that were not seen, or that no plan deals."""


class BadText(LotError):
    """A text that is no written form."""

    def __init__(self, at):
        self.at = at


class BadLine(LotError):
    """A line that the desk cannot run."""

    def __init__(self, number):
        self.number = number
