"""The errors of the package, one class for each kind of failure."""


class CutError(ValueError):
    """The base class of all errors of the package."""


class Apart(CutError):
    """Two intervals have a gap between them, so no interval is their union."""


class BadPlace(CutError):
    """The moment of a cut is not strictly inside of what is cut."""


class BadTable(CutError):
    """A table has a number of columns that no table has."""


class BadRow(CutError):
    """A row does not fit its table."""


class NoRow(CutError):
    """A table does not hold the row."""


class BadMarks(CutError):
    """Marks are not strictly ascending, or are too few or too many."""


class NoTest(CutError):
    """A plan has no such test."""


class NoReading(CutError):
    """A plan has no reading with the number."""


class Mismatch(CutError):
    """Things that are used together do not fit each other."""


class TooMany(CutError):
    """Something goes beyond a bound."""


class BadStep(CutError):
    """The step with the number is not valid."""

    def __init__(self, number):
        super().__init__(f"step {number} is not valid")
        self.number = number


class BadLine(CutError):
    """The line with the number is not valid."""

    def __init__(self, number):
        super().__init__(f"line {number} is not valid")
        self.number = number


class NoTable(CutError):
    """There is no table of the name."""

    def __init__(self, name):
        super().__init__(f"there is no table {name}")
        self.name = name


class WrongColumns(CutError):
    """The table of the name has another number of columns."""

    def __init__(self, name):
        super().__init__(f"table {name} has another number of columns")
        self.name = name
