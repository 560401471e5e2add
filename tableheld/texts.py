"""Texts of tables and histories, and back."""

from tableheld.costs import GREATEST_COST, LEAST_COST, Costs
from tableheld.errors import BadText, HeldError
from tableheld.history import MOST_VERSIONS, History
from tableheld.tables import MOST_ROWS, Table, are_columns, is_row
from tableheld.values import is_integer, is_integer_within

MOST_DIGITS = 9
TRUTHS = {"yes": True, "no": False}


def cell_text(cell):
    """Return a cell as it is written."""
    return "?" if cell is None else str(cell)


def place_text(place):
    """Return a place, or None, as it is written."""
    return "-" if place is None else str(place)


def table_lines(table):
    """Return the list of the lines of a table."""
    rows = [" ".join(["row", *[cell_text(cell) for cell in row]]) for row in table.rows]
    return [" ".join(["columns", *table.columns]), *rows]


def saying_line(saying):
    """Return the line of a saying."""
    number, step, kind, i, j, truth = saying
    truth_text = "yes" if truth else "no"
    return f"say {number} {step} {kind} {place_text(i)} {place_text(j)} {truth_text}"


def show_table(table):
    """Return the text of a table."""
    return "\n".join(table_lines(table))


def show_history(history):
    """Return the text of a history."""
    costs = history.costs
    lines = [f"costs {costs.cell} {costs.row} {costs.column} {costs.name} {costs.move}"]
    for number, table in enumerate(history.tables):
        lines.extend([f"version {number}", *table_lines(table)])
    lines.append(f"next {history.next_number}")
    lines.extend([saying_line(saying) for saying in history.sayings])
    return "\n".join(lines)


def value_in(word):
    """Return the integer that a word of a text writes; the word itself if it writes none that can be read."""
    digits = word[1:] if word.startswith("-") else word
    if not 1 <= len(digits) <= MOST_DIGITS or not all(["0" <= sign <= "9" for sign in digits]):
        return word
    number = int(word)
    # It must be written as it would be shown: without leading zeros, and 0 without a sign.
    return number if str(number) == word else word


def cell_in(word):
    """Return the cell that a word writes; something that is no cell if it writes none."""
    return None if word == "?" else value_in(word)


def place_in(word):
    """Return the place, or None, that a word writes; something that is neither if it writes none."""
    return None if word == "-" else value_in(word)


class Reader:
    """The lines of a text, and how far it has been read: at is the number of the next line."""

    def __init__(self, text):
        if not isinstance(text, str):
            raise BadText(0)
        self.lines = text.split("\n")
        self.at = 0

    def is_done(self):
        """Tell whether all lines have been read."""
        return self.at == len(self.lines)

    def words(self):
        """Return the list of the words of the next line; if there is none, it is empty, which no line has."""
        return [] if self.is_done() else self.lines[self.at].split(" ")

    def take(self, fits):
        """Go on behind the next line if it fits; otherwise, also if it is missing, raise BadText."""
        if not fits:
            raise BadText(self.at)
        self.at += 1

    def finish(self):
        """Raise BadText unless all lines have been read."""
        if not self.is_done():
            raise BadText(self.at)


def take_table(reader):
    """Read the lines of a table, and return it."""
    words = reader.words()
    columns = tuple(words[1:])
    reader.take(words[:1] == ["columns"] and are_columns(columns))
    rows = []
    while len(rows) < MOST_ROWS:
        words = reader.words()
        row = tuple([cell_in(word) for word in words[1:]])
        if words[:1] != ["row"] or not is_row(row, len(columns)):
            break
        reader.take(True)
        rows.append(row)
    return Table(columns, tuple(rows))


def take_costs(reader):
    """Read the line of costs, and return them."""
    words = reader.words()
    costs = [value_in(word) for word in words[1:]]
    within = all([is_integer_within(cost, LEAST_COST, GREATEST_COST) for cost in costs])
    reader.take(words[:1] == ["costs"] and len(costs) == 5 and within)
    cell, row, column, name, move = costs
    return Costs(cell=cell, row=row, column=column, name=name, move=move)


def take_versions(reader):
    """Read the lines of all versions, and return the list of their tables."""
    reader.take(reader.words() == ["version", "0"])
    tables = [take_table(reader)]
    while len(tables) < MOST_VERSIONS and reader.words() == ["version", str(len(tables))]:
        reader.take(True)
        tables.append(take_table(reader))
    return tables


def take_next(reader):
    """Read the line of the next number of a saying, and return this number."""
    words = reader.words()
    number = value_in(words[-1]) if len(words) == 2 else None
    reader.take(words[:1] == ["next"] and is_integer(number) and number >= 0)
    return number


def is_said(history, words, next_number):
    """Tell whether words are the line of a saying that can stand behind those of a history; if so, say it there."""
    if len(words) != 7 or words[0] != "say":
        return False
    number, step, i, j = value_in(words[1]), value_in(words[2]), place_in(words[4]), place_in(words[5])
    if not is_integer_within(number, history.next_number, next_number - 1):
        return False
    history.next_number = number
    try:
        history.say(step, words[3], i, j, TRUTHS.get(words[6]))
    except HeldError:
        return False
    return True


def read_table(text):
    """Return the table with this text."""
    reader = Reader(text)
    table = take_table(reader)
    reader.finish()
    return table


def read_history(text):
    """Return the history with this text."""
    reader = Reader(text)
    costs = take_costs(reader)
    tables = take_versions(reader)
    history = History(tables[0], costs)
    for table in tables[1:]:
        history.add(table)
    next_number = take_next(reader)
    while not reader.is_done():
        reader.take(is_said(history, reader.words(), next_number))
    history.next_number = next_number
    return history
