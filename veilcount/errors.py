"""The errors of the package.

The messages contain no values: a number of any size may be at fault, and
Python refuses to write out an integer of some thousand figures.
"""


class VeilError(ValueError):
    """The base of all errors of the package."""


class BadPrime(VeilError):
    """A number that should be a prime and is none."""

    def __init__(self, number):
        super().__init__("the number is not a prime")
        self.number = number


class BadValue(VeilError):
    """A number that is not among those that may stand there."""

    def __init__(self, value):
        super().__init__("the value does not fit")
        self.value = value


class BadOrder(VeilError):
    """A list that is no order, or an order of another number of rows."""

    def __init__(self):
        super().__init__("the list is not an order of the rows")


class BadCoins(VeilError):
    """Too many or too few numbers for coins."""

    def __init__(self, due, given):
        super().__init__("the coins are too many or too few")
        self.due = due
        self.given = given


class BadLots(VeilError):
    """Lots that are no lots, or that together have all mixers."""

    def __init__(self, first, second):
        super().__init__("the lots do not make a family")
        self.first = first
        self.second = second


class PhaseError(VeilError):
    """A deed that the present phase of an election does not allow."""

    def __init__(self, phase):
        super().__init__("the phase does not allow this")
        self.phase = phase


class VoteError(VeilError):
    """A voter who may not do this with a ranking."""

    def __init__(self, voter):
        super().__init__("the voter may not do this")
        self.voter = voter


class TagError(VeilError):
    """A row of three numbers that does not pass."""

    def __init__(self, row):
        super().__init__("the row does not pass")
        self.row = row


class LineError(VeilError):
    """A line of a text that does not fit."""

    def __init__(self, line):
        super().__init__("the line does not fit")
        self.line = line
