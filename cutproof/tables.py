"""Rows, and tables of rows."""

from cutproof.errors import BadPlace, BadRow, BadTable, NoRow
from cutproof.intervals import Interval
from cutproof.words import LONGEST, is_word

NUMBER_WIDTH = 8


def plain_data(data):
    """Return data as a plain tuple of plain strings, whatever classes were derived from these."""
    return tuple([str(word) for word in data])


def plain_row(row):
    """Return a row as a plain tuple of plain parts."""
    data, start, stop = row
    return plain_data(data), int(start), int(stop)


def rows_at(rows, moment):
    """Return the snapshot of the rows at the moment."""
    return sorted({plain_data(data) for data, start, stop in rows if start <= moment < stop})


def merge_rows(rows):
    """Return the merged rows that say the same as the rows, in ascending order."""
    found = []
    for data, start, stop in sorted([plain_row(row) for row in rows]):
        if found and found[-1][0] == data and start <= found[-1][2]:
            found[-1] = (data, found[-1][1], max(found[-1][2], stop))
        else:
            found.append((data, start, stop))
    return found


def ends_of_merged(rows):
    """Return each end of the merged rows with the data that begins or ends there."""
    return [(end, data) for data, start, stop in merge_rows(rows) for end in (start, stop)]


def first_change(before, after):
    """Return where the snapshots of two lists of rows first differ, or None."""
    # Data comes or goes at the ends of its merged rows and nowhere else, so an end
    # that only one side has is a moment at which the two sides differ.
    changes = sorted(set(ends_of_merged(before)) ^ set(ends_of_merged(after)))
    if not changes:
        return None
    moment, data = changes[0]
    lost = data in rows_at(before, moment)
    return moment, data, lost


def checked_row(columns, row):
    """Return the row for a table with so many columns, or raise BadRow."""
    data, start, stop = row
    if len(data) != columns:
        raise BadRow("the data has another number of words than the table has columns")
    if not all([is_word(word) for word in data]):
        raise BadRow("the data has a member that is not a word")
    if start >= stop:
        raise BadRow("the start is not less than the stop")
    return plain_row(row)


def cut_rows(rows, row, at):
    """Return a new list of the rows, in ascending order, with the row cut at the moment."""
    data, start, stop = plain_row(row)
    pieces = [(data, start, int(at)), (data, int(at), stop)]
    return sorted(set([other for other in rows if other != row] + pieces))


def line_of(row):
    """Return the printed line of a row."""
    data, start, stop = row
    words = [word.ljust(LONGEST) for word in data]
    return " ".join([*words, str(start).rjust(NUMBER_WIDTH), str(stop).rjust(NUMBER_WIDTH)])


class TableCut:
    """The cut of a table's row that lasts as long as a `with` statement."""

    def __init__(self, table, row, at):
        self.table = table
        self.row = row
        self.at = at
        self.before = []

    def __enter__(self):
        table = self.table
        self.before = table._rows
        table._rows = cut_rows(self.before, self.row, self.at)

    def __exit__(self, kind, value, trace):
        table = self.table
        table._rows = self.before


class Table:
    """A set of rows, all with data of as many words as the table has columns."""

    # The list of the rows is replaced, never changed: a cut keeps the former one to give it back.

    def __init__(self, columns, rows=()):
        if columns not in (1, 2):
            raise BadTable("a table has 1 or 2 columns")
        self.columns = int(columns)
        self._rows = sorted({checked_row(columns, row) for row in rows})

    def __contains__(self, row):
        return row in self._rows

    def __len__(self):
        return len(self._rows)

    def __iter__(self):
        return iter(self._rows)

    def __getitem__(self, data):
        return [Interval(start, stop) for words, start, stop in self._rows if words == data]

    def __setitem__(self, data, interval):
        row = checked_row(self.columns, (data, interval.start, interval.stop))
        if row not in self._rows:
            self._rows = sorted([*self._rows, row])

    def snapshot(self, moment):
        """Return the data that the table says at the moment, in ascending order."""
        return rows_at(self._rows, moment)

    def merged(self):
        """Return a new table with the merged rows that say the same."""
        return Table(self.columns, merge_rows(self._rows))

    @property
    def is_merged(self):
        """Tell whether the rows of the table are merged."""
        return merge_rows(self._rows) == self._rows

    def says_same(self, other):
        """Tell whether the other table has as many columns and says the same."""
        return self.columns == other.columns and merge_rows(self._rows) == merge_rows(other._rows)

    def cut(self, row, at):
        """Return what cuts the row at the moment for the length of one `with` statement."""
        self._check_cut(row, at)
        return TableCut(self, plain_row(row), int(at))

    def after_cut(self, row, at):
        """Return a new table with the row cut at the moment."""
        self._check_cut(row, at)
        return Table(self.columns, cut_rows(self._rows, row, at))

    def _check_cut(self, row, at):
        if row not in self._rows:
            raise NoRow("the table does not hold the row")
        if not row[1] < at < row[2]:
            raise BadPlace("the moment is not strictly inside the row")

    def lines(self):
        """Return the rows as lines of text, in ascending order."""
        return [line_of(row) for row in self._rows]
