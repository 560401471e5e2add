"""Tables: named columns, and rows without keys."""

from tableheld.errors import BadColumns, BadRow, BadRows, TooMany
from tableheld.values import is_integer_within

LONGEST_WORD = 8
GREATEST_NUMBER = 999
MOST_COLUMNS = 3
MOST_ROWS = 6


def is_word(value):
    """Tell whether any value is a word: a string of 1 to 8 letters a to z."""
    if not isinstance(value, str) or not 1 <= len(value) <= LONGEST_WORD:
        return False
    return all(["a" <= letter <= "z" for letter in value])


def is_cell(value):
    """Tell whether any value is a cell: None, an integer from -999 to 999, or a word."""
    return value is None or is_integer_within(value, -GREATEST_NUMBER, GREATEST_NUMBER) or is_word(value)


def are_columns(value):
    """Tell whether any value is a tuple of 1 to 3 different words."""
    if not isinstance(value, tuple) or not 1 <= len(value) <= MOST_COLUMNS:
        return False
    # Only words are put into the set: other members may be lists or dicts, which have no hash.
    return all([is_word(name) for name in value]) and len(set(value)) == len(value)


def is_row(value, width):
    """Tell whether any value is a tuple with a cell for each of so many columns."""
    if not isinstance(value, tuple) or len(value) != width:
        return False
    return all([is_cell(cell) for cell in value])


def cell_key(cell):
    """Return what the usual sequence compares a cell by; None and words do not compare with integers."""
    if cell is None:
        return (0, 0, "")
    if isinstance(cell, int):
        return (1, cell, "")
    return (2, 0, cell)


def row_key(row):
    """Return what the usual sequence compares a row by: cell by cell, from the left."""
    return tuple([cell_key(cell) for cell in row])


def usual_sequence(rows):
    """Return rows as a tuple in the usual sequence, each as often as it is among them."""
    return tuple(sorted(rows, key=row_key))


class Table:
    """A table: a tuple of column names, and a tuple of rows, each a tuple of cells."""

    def __init__(self, columns, rows):
        if not are_columns(columns):
            raise BadColumns(columns)
        if not isinstance(rows, tuple):
            raise BadRows(rows)
        if len(rows) > MOST_ROWS:
            raise TooMany(MOST_ROWS)
        for row in rows:
            if not is_row(row, len(columns)):
                raise BadRow(row)
        self.columns = columns
        self.rows = rows

    def __eq__(self, other):
        return isinstance(other, Table) and self.columns == other.columns and self.rows == other.rows
