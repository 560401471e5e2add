"""All errors of the package: each one is directly below HeldError."""


class HeldError(ValueError):
    """What every error of the package is."""


class BadColumns(HeldError):
    """The columns of a table are not a tuple of 1 to 3 different words."""

    def __init__(self, value):
        self.value = value


class BadRows(HeldError):
    """The rows of a table are not a tuple."""

    def __init__(self, value):
        self.value = value


class BadRow(HeldError):
    """A row of a table is not a tuple with a cell for each column."""

    def __init__(self, value):
        self.value = value


class BadCost(HeldError):
    """A cost is not an integer from 1 to 50."""

    def __init__(self, value):
        self.value = value


class BadAlignment(HeldError):
    """A value is not an alignment of the two tables."""

    def __init__(self, value):
        self.value = value


class BadCondition(HeldError):
    """A value is not a condition for the two tables, or not a tuple of so many."""

    def __init__(self, value):
        self.value = value


class BadKind(HeldError):
    """A kind is neither column nor row."""

    def __init__(self, value):
        self.value = value


class BadTable(HeldError):
    """A value is not a table."""

    def __init__(self, value):
        self.value = value


class BadCosts(HeldError):
    """A value is not costs."""

    def __init__(self, value):
        self.value = value


class BadSide(HeldError):
    """A side is neither ours nor theirs."""

    def __init__(self, value):
        self.value = value


class BadText(HeldError):
    """A text is not that of a table or a history, from this line on."""

    def __init__(self, line):
        self.line = line


class NoPlace(HeldError):
    """There is no such place."""

    def __init__(self, value):
        self.value = value


class NoVersion(HeldError):
    """There is no such version."""

    def __init__(self, value):
        self.value = value


class NoStep(HeldError):
    """There is no such step."""

    def __init__(self, value):
        self.value = value


class NoSaying(HeldError):
    """There is no such saying."""

    def __init__(self, value):
        self.value = value


class NoAlignment(HeldError):
    """No alignment keeps the conditions."""


class NotBest(HeldError):
    """An alignment is not a best one."""


class TooMany(HeldError):
    """There are, or would be, more than the limit."""

    def __init__(self, limit):
        self.limit = limit


class Contradiction(HeldError):
    """No alignment keeps the sayings with these numbers together."""

    def __init__(self, numbers):
        self.numbers = numbers


class Unsure(HeldError):
    """On this side the column of base at this spot has two or more partners."""

    def __init__(self, side, spot):
        self.side = side
        self.spot = spot


class ColumnClash(HeldError):
    """The columns of both sides do not fit together; the word tells why."""

    def __init__(self, word):
        self.word = word


class Doubt(HeldError):
    """The rows of a merge are in doubt, those of base at these spots."""

    def __init__(self, spots):
        self.spots = spots
