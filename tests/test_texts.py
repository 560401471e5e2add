"""Section 18: texts of tables and histories, and back, and the first line that is not right."""

import re
import unittest

import by_hand
import by_hand_courses
from samples import any_values
from tableheld.costs import Costs
from tableheld.errors import BadText, Contradiction, TooMany
from tableheld.history import History
from tableheld.tables import Table
from tableheld.texts import read_history, read_table, show_history, show_table

NUMBER = "(?:0|-?[1-9][0-9]{0,8})"
CELL = f"(?:[?]|{NUMBER}|[a-z]{{1,8}})"
SAY = re.compile(f"say ({NUMBER}) ({NUMBER}) (column|row) (-|{NUMBER}) (-|{NUMBER}) (yes|no)")


def right(pattern, line):
    return line is not None and re.fullmatch(pattern, line) is not None


class Judge:
    """Finds by hand, line by line, what is wrong with a text: None, or the number of a line."""

    def __init__(self, text):
        self.lines, self.at = text.split("\n"), 0

    def line(self):
        return self.lines[self.at] if self.at < len(self.lines) else None

    def table(self):
        """Return the columns and rows of the lines that are those of a table, or None if the first one is wrong."""
        if not right("columns [a-z]{1,8}( [a-z]{1,8}){0,2}", self.line()):
            return None
        columns = self.line().split(" ")[1:]
        if len(set(columns)) < len(columns):
            return None
        self.at += 1
        rows = []
        while len(rows) < 6 and right(f"row {CELL}" + f" {CELL}" * (len(columns) - 1), self.line()):
            cells = self.line().split(" ")[1:]
            if any(right(NUMBER, cell) and abs(int(cell)) > 999 for cell in cells):
                break
            rows.append(cells)
            self.at += 1
        return columns, rows

    def of_table(self):
        if self.table() is None or self.line() is not None:
            return self.at
        return None

    def of_history(self):
        if not right("costs" + " [1-9][0-9]?" * 5, self.line()) or max(map(int, self.line().split(" ")[1:])) > 50:
            return self.at
        self.at += 1
        tables = []
        while len(tables) < 12 and self.line() == f"version {len(tables)}":
            self.at += 1
            tables.append(self.table())
            if tables[-1] is None:
                return self.at
        if tables == [] or not right("next (0|[1-9][0-9]{0,8})", self.line()):
            return self.at
        above, behind = -1, int(self.line().split(" ")[1])
        said = {}
        self.at += 1
        while self.line() is not None:
            found = SAY.fullmatch(self.line())
            if found is None or not above < int(found[1]) < behind or not 1 <= int(found[2]) < len(tables):
                return self.at
            above, step = int(found[1]), int(found[2])
            told = said.setdefault(step, [])
            if not self.keeps(tables[step - 1], tables[step], told, found.groups()[2:]):
                return self.at
            self.at += 1
        return None

    def keeps(self, one, other, told, saying):
        """Tell whether a saying can stand behind those of its step that were told, and add it to them."""
        kind, i, j, truth = saying
        condition = [kind, None if i == "-" else int(i), None if j == "-" else int(j), truth == "yes"]
        at = ("column", "row").index(kind)
        if len(told) == 40 or (i == "-" and j == "-"):
            return False
        for place, table in zip(condition[1:], (one, other)):
            if place is not None and not 0 <= place < len(table[at]):
                return False
        told.append(condition)
        columns = by_hand.pairings(len(one[0]), len(other[0]))
        return any(
            by_hand.keeps((pairs, rows), told)
            for pairs in columns for rows in (by_hand.pairings(len(one[1]), len(other[1])) if pairs else ((),))
        )


def refused(read, text):
    """Return the line that is told as the first one that is not right, or None."""
    try:
        read(text)
    except BadText as error:
        return error.line
    return None


def some_history():
    history = History(Table(("a", "bcd"), ((1, None), ("x", -20), (0, "row"))), Costs(cell=50, row=1, move=12))
    history.add(Table(("a",), ()))
    history.add(Table(("columns", "row", "zzzzzzzz"), ((999, -999, "say"),)))
    history.say(2, "column", None, 2, True)
    history.say(1, "row", 2, None, True)
    history.say(2, "column", 0, 1, False)
    history.unsay(1)
    history.recost(Costs(cell=7))
    return history


TEXT = """costs 7 4 5 1 1
version 0
columns a bcd
row 1 ?
row x -20
row 0 row
version 1
columns a
version 2
columns columns row zzzzzzzz
row 999 -999 say
next 3
say 0 2 column - 2 yes
say 2 2 column 0 1 no"""


class Shown(unittest.TestCase):
    def test_table(self):
        self.assertEqual(show_table(Table(("a",), ())), "columns a")
        table = Table(("b", "a"), ((None, -1), ("word", 0), (999, "x")))
        self.assertEqual(show_table(table), "columns b a\nrow ? -1\nrow word 0\nrow 999 x")
        self.assertEqual(show_table(table=table), show_table(table))

    def test_history(self):
        self.assertEqual(show_history(some_history()), TEXT)
        self.assertEqual(show_history(history=some_history()), TEXT)

    def test_short_history(self):
        text = "costs 3 4 5 1 1\nversion 0\ncolumns a\nnext 0"
        self.assertEqual(show_history(History(Table(("a",), ()))), text)

    def test_all_costs_in_their_sequence(self):
        history = History(Table(("a",), ()), Costs(cell=11, row=12, column=13, name=14, move=15))
        self.assertEqual(show_history(history).split("\n")[0], "costs 11 12 13 14 15")

    def test_sayings_of_each_form(self):
        history = History(Table(("a", "b"), ((1, 2),)))
        history.add(Table(("a", "b"), ((1, 2),)))
        for saying, line in (
            (("row", 0, 0, True), "say 0 1 row 0 0 yes"),
            (("row", None, 0, False), "say 1 1 row - 0 no"),
            (("column", 1, None, False), "say 2 1 column 1 - no"),
        ):
            history.say(1, *saying)
            self.assertEqual(show_history(history).split("\n")[-1], line)

    def test_more_than_nine_digits_can_be_written(self):
        history = read_history("costs 3 4 5 1 1\nversion 0\ncolumns a\nversion 1\ncolumns a\nnext 999999999")
        self.assertEqual(history.say(1, "column", 0, 0, True), 999999999)
        self.assertEqual(history.say(1, "column", 0, 0, True), 1000000000)
        text = show_history(history)
        self.assertEqual(text.split("\n")[-3:], [
            "next 1000000001", "say 999999999 1 column 0 0 yes", "say 1000000000 1 column 0 0 yes",
        ])
        self.assertEqual(refused(read_history, text), 5)


class ThereAndBack(unittest.TestCase):
    def test_tables(self):
        numbers = by_hand.Numbers(5)
        for k in range(200):
            table = by_hand.some_table(numbers, 1 + k % 3, numbers.below(7))
            self.assertEqual(read_table(show_table(table)), table)
            self.assertEqual(read_table(text=show_table(table)), table)

    def test_histories(self):
        for seed in range(60):
            history = by_hand_courses.some_history(seed, length=seed % 5) if seed % 5 else some_history()
            text = show_history(history)
            again = read_history(text)
            self.assertEqual(again, history)
            self.assertEqual(show_history(again), text)
            self.assertEqual((again.last, again.costs, again.sayings), (history.last, history.costs, history.sayings))
            self.assertEqual(Judge(text).of_history(), None)

    def test_it_tells_the_same(self):
        for seed in range(30):
            history = by_hand_courses.some_history(seed)
            again = read_history(text=show_history(history))
            for step in range(1, history.last + 1):
                for claim in by_hand.claims(history.version(step - 1), history.version(step)):
                    one, other = history.comparison(step), again.comparison(step)
                    self.assertEqual(one.verdict(*claim), other.verdict(*claim))
                    self.assertEqual(one.reason(*claim), other.reason(*claim))
            last = history.version(history.last)
            for i in range(len(last.rows)):
                self.assertEqual(again.births("row", history.last, i), history.births("row", history.last, i))
                self.assertEqual(again.track(history.last, i, 0, 1), history.track(history.last, i, 0, 1))

    def test_it_goes_on_as_the_one_that_was_shown(self):
        one, other = some_history(), read_history(TEXT)
        for history in (one, other):
            self.assertEqual(history.say(1, "row", 0, None, True), 3)
            history.unsay(2)
            self.assertEqual(history.add(Table(("a",), ())), 3)
            self.assertEqual(history.say(3, "column", 0, 0, True), 4)
            with self.assertRaises(Contradiction) as caught:
                history.say(3, "column", 0, 0, False)
            self.assertEqual(caught.exception.numbers, (4, 5))
            with history.trial(), history.trial(), history.trial(), history.trial():
                history.add(Table(("a",), ()))
                with self.assertRaises(TooMany):
                    with history.trial():
                        pass
        self.assertEqual(one, other)

    def test_within_a_trial(self):
        history = some_history()
        with history.trial():
            history.add(Table(("b",), ()))
            text = show_history(history)
            again = read_history(text)
            self.assertEqual(again, history)
        self.assertNotEqual(again, history)
        self.assertEqual(again.last, 3)

    def test_great_ones(self):
        history = History(Table(("abcdefgh", "b", "c"), ((-999, "abcdefgh", None),) * 6))
        for _ in range(11):
            history.add(Table(("abcdefgh", "b", "c"), ((-999, "abcdefgh", None),) * 6))
        for step in (1, 11):
            for _ in range(40):
                history.say(step, "row", 5, 5, True)
        self.assertEqual(read_history(show_history(history)), history)

    def test_equal_exactly_if_the_texts_are(self):
        histories = [by_hand_courses.some_history(seed % 7) for seed in range(14)] + [some_history(), some_history()]
        for one in histories:
            for other in histories:
                self.assertEqual(one == other, show_history(one) == show_history(other))


class NoText(unittest.TestCase):
    def test_any_values(self):
        for read in (read_table, read_history):
            for value in [*any_values(), b"columns a", Table(("a",), ())]:
                with self.assertRaises(BadText) as caught:
                    read(value)
                self.assertEqual(caught.exception.line, 0)

    def test_the_empty_text(self):
        self.assertEqual([refused(read, "") for read in (read_table, read_history)], [0, 0])
        self.assertEqual([refused(read, "\n\n") for read in (read_table, read_history)], [0, 0])


class TablesRefused(unittest.TestCase):
    def check(self, line, *lines):
        text = "\n".join(lines)
        self.assertEqual(refused(read_table, text), line, text)
        self.assertEqual(Judge(text).of_table(), line, text)

    def test_columns(self):
        for columns in (
            "columns", "columns ", " columns a", "columns a ", "columns  a", "columns a  b", "columns a a",
            "columns a b c d", "columns A", "columns abcdefghi", "columns 1", "columns ?", "column a", "Columns a",
            "columns\ta", "columns a\tb", "columns a\r", "columnsa", "row 1", "columns a,b", "columns \u00e9", "",
        ):
            self.check(0, columns)
            self.check(0, columns, "row 1")
        for columns in ("columns a", "columns a b c", "columns abcdefgh", "columns row", "columns columns"):
            self.check(None, columns)

    def test_rows(self):
        for row in (
            "row", "row ", "row 1 ", " row 1", "row  1", "row 1 2", "row -", "row +1", "row -0", "row 01", "row 00",
            "row -01", "row 1000", "row -1000", "row 999999999", "row 1000000000", "row -9999999999", "row 1.0",
            "row 1e2", "row 0x1", "row 1_0", "row X", "row abcdefghi", "row None", "row ??", "row a1", "row \u0663",
            "row \u00b2", "row 1\r", "row 1\x0b", "row\t1", "rows 1", "Row 1", "columns a", "version 0", "next 0", "",
            "row " + "1" * 6000, "row -" + "9" * 6000, "row " + "a" * 6000, "row \ud800",
        ):
            self.check(1, "columns a", row)
            self.check(2, "columns a", "row 1", row)
            self.check(1, "columns a", row, "row 1")
        for row in ("row 0", "row ?", "row 999", "row -999", "row -1", "row row", "row abcdefgh", "row none"):
            self.check(None, "columns a", row)

    def test_cells_for_each_column(self):
        self.check(None, "columns a b", "row 1 2")
        self.check(1, "columns a b", "row 1")
        self.check(1, "columns a b", "row 1 2 3")
        self.check(2, "columns a b", "row 1 2", "row 1 ")

    def test_more_than_six_rows(self):
        self.check(None, "columns a", *["row 1"] * 6)
        self.check(7, "columns a", *["row 1"] * 7)
        self.check(7, "columns a", *["row 1"] * 9)

    def test_behind_the_last_line(self):
        self.check(1, "columns a", "")
        self.check(2, "columns a", "row 1", "")
        self.check(7, "columns a", *["row 1"] * 6, "")
        self.check(2, "columns a", "row 1", " ")

    def test_other_ends_of_lines(self):
        for end in ("\r\n", "\r", "\x0b", "\x0c", "\u2028", "\x85", "\n\n"):
            text = f"columns a{end}row 1"
            self.assertEqual(refused(read_table, text), Judge(text).of_table())
            self.assertIn(refused(read_table, text), (0, 1))


class HistoriesRefused(unittest.TestCase):
    def check(self, line, lines):
        text = "\n".join(lines)
        self.assertEqual(refused(read_history, text), line, text)
        self.assertEqual(Judge(text).of_history(), line, text)

    def setUp(self):
        self.lines = TEXT.split("\n")

    def replaced(self, at, line):
        return [*self.lines[:at], line, *self.lines[at + 1:]]

    def test_cut_behind_each_line(self):
        for many in range(1, len(self.lines)):
            # Behind the line of the next number, no line is missing; what is left out are sayings.
            self.check(None if many >= 12 else many, self.lines[:many])

    def test_cut_within_each_line(self):
        for at, line in enumerate(self.lines):
            for many in range(len(line)):
                text = "\n".join([*self.lines[:at], line[:many]])
                self.assertEqual(refused(read_history, text), Judge(text).of_history(), text)

    def test_a_line_left_empty(self):
        for at in range(len(self.lines)):
            self.check(at, self.replaced(at, ""))
            self.check(at, [*self.lines[:at], "", *self.lines[at:]])
        self.check(14, [*self.lines, ""])

    def test_a_line_left_out_or_twice(self):
        for at in range(len(self.lines)):
            for lines in ([*self.lines[:at], *self.lines[at + 1:]], [*self.lines[:at + 1], *self.lines[at:]]):
                text = "\n".join(lines)
                self.assertEqual(refused(read_history, text), Judge(text).of_history(), text)
        self.check(1, [self.lines[0], *self.lines])
        self.check(1, [self.lines[0], *self.lines[2:]])
        self.check(13, [*self.lines[:13], *self.lines[12:]])

    def test_a_word_or_a_blank_more_or_less(self):
        for at, line in enumerate(self.lines):
            words = line.split(" ")
            for k in range(len(words) + 1):
                for more in ("1", "a", "?", "-", "", "yes"):
                    new = " ".join([*words[:k], more, *words[k:]])
                    text = "\n".join(self.replaced(at, new))
                    self.assertEqual(refused(read_history, text), Judge(text).of_history(), text)
                text = "\n".join(self.replaced(at, " ".join([*words[:k], *words[k + 1:]])))
                self.assertEqual(refused(read_history, text), Judge(text).of_history(), text)
            for blank in (f" {line}", f"{line} ", line.replace(" ", "  ", 1), line.replace(" ", "\t", 1), f"{line}\r"):
                self.check(at, self.replaced(at, blank))

    def test_other_words(self):
        for at, line in enumerate(self.lines):
            words = line.split(" ")
            for k in range(len(words)):
                for other in (
                    "0", "1", "2", "3", "-1", "-0", "01", "50", "51", "999999999", "1000000000", "x", "?", "-", "row",
                    "column", "yes", "no", "Yes", "columns", "version", "next", "say", "costs", "1" * 5000, "\u0663",
                ):
                    text = "\n".join(self.replaced(at, " ".join([*words[:k], other, *words[k + 1:]])))
                    self.assertEqual(refused(read_history, text), Judge(text).of_history(), text)

    def test_costs(self):
        for costs in (
            "costs 3 4 5 1", "costs 3 4 5 1 1 1", "costs 0 4 5 1 1", "costs 3 4 5 1 51", "costs 3 4 05 1 1",
            "costs 3 4 x 1 1", "costs 3 -4 5 1 1", "costs", "cost 3 4 5 1 1", "costs 3 4 5 1 ?",
        ):
            self.check(0, self.replaced(0, costs))
        self.check(None, self.replaced(0, "costs 50 50 1 1 50"))

    def test_versions(self):
        self.check(1, self.replaced(1, "version 1"))
        self.check(6, self.replaced(6, "version 2"))
        self.check(6, self.replaced(6, "version 0"))
        self.check(6, self.replaced(6, "version 01"))
        self.check(1, ["costs 3 4 5 1 1", "next 0"])
        self.check(2, ["costs 3 4 5 1 1", "version 0", "version 1"])
        self.check(2, ["costs 3 4 5 1 1", "version 0", "next 0"])

    def test_twelve_versions_and_a_thirteenth(self):
        lines = ["costs 3 4 5 1 1"]
        for number in range(12):
            lines.extend([f"version {number}", "columns a"])
        self.check(None, [*lines, "next 0"])
        self.check(25, [*lines, "version 12", "columns a", "next 0"])
        self.check(25, lines)

    def test_rows_of_versions(self):
        lines = ["costs 3 4 5 1 1", "version 0", "columns a", *["row 1"] * 6]
        self.check(None, [*lines, "next 0"])
        self.check(9, [*lines, "row 1", "next 0"])

    def test_next(self):
        for line in ("next", "next -1", "next 03", "next x", "next -", "next 1000000000", "next 3 3", "nxt 3", "next "):
            self.check(11, self.replaced(11, line))
        for line in ("next 3", "next 4", "next 999999999"):
            self.check(None, self.replaced(11, line))
        # The number of a saying must be below it.
        self.check(13, self.replaced(11, "next 2"))
        self.check(12, self.replaced(11, "next 0"))

    def test_numbers_of_sayings(self):
        for number, line in ((0, 13), (1, None), (2, None), (3, 13), (-1, 13), ("02", 13), (1000000000, 13)):
            self.check(line, self.replaced(13, f"say {number} 2 column 0 1 no"))
        self.check(13, [*self.lines[:12], self.lines[13], self.lines[12]])
        lines = self.replaced(11, "next 999999999")
        self.check(None, [*lines, "say 999999998 1 row 0 - yes"])
        self.check(14, [*lines, "say 999999999 1 row 0 - yes"])
        self.check(15, [*lines, "say 999999998 1 row 0 - yes", "say 999999998 1 row 0 - yes"])

    def test_numbers_of_all_steps_together(self):
        lines = self.replaced(11, "next 9")
        self.check(14, [*lines, "say 1 1 row 0 - yes"])
        self.check(None, [*lines, "say 3 1 row 0 - yes", "say 8 2 column - 2 yes"])

    def test_sayings(self):
        for saying in (
            "say 2 0 column 0 1 no", "say 2 3 column 0 1 no", "say 2 -1 column 0 1 no", "say 2 2 columns 0 1 no",
            "say 2 2 column 1 1 no", "say 2 2 column 0 3 no", "say 2 2 column - - no", "say 2 2 column -1 1 no",
            "say 2 2 column 0 1 No", "say 2 2 column 0 1 true", "say 2 2 column 0 1", "say 2 2 column 0 1 no no",
            "say 2 2 row 0 0 no", "say 2 2 column ? 1 no", "say 2 2 column x 1 no", "say 2 2 column 00 1 no",
            "say 2 2 column 0 01 no", "say 2 02 column 0 1 no", "say 2 x column 0 1 no", "say - 2 column 0 1 no",
            "say 2 2 column -0 1 no", "said 2 2 column 0 1 no", "say 2 2 row - 1 no", "say 2 1 row 3 - no",
            "say 2 2 column 0 1 ?",
        ):
            self.check(13, self.replaced(13, saying))
        for saying in (
            "say 2 1 row 2 - yes", "say 2 2 row - 0 yes", "say 2 2 column 0 0 yes", "say 2 2 column 0 - no",
        ):
            self.check(None, self.replaced(13, saying))

    def test_forty_sayings_of_a_step(self):
        lines = self.replaced(11, "next 99")
        forty = [f"say {number} 1 row 0 - yes" for number in range(3, 43)]
        self.check(None, [*lines, *forty])
        self.check(54, [*lines, *forty, "say 43 1 row 0 - yes"])
        self.check(None, [*lines, *forty, "say 43 2 column 0 1 no"])

    def test_sayings_that_no_alignment_keeps_with_those_above(self):
        lines = self.replaced(11, "next 99")
        self.check(14, [*lines, "say 3 2 column - 2 no"])
        self.check(14, [*lines, "say 3 2 column 0 2 yes", "say 4 2 column 0 1 yes"])
        self.check(15, [*lines, "say 3 1 row 0 - yes", "say 4 1 row 0 - no"])
        # Of version 1, which has no rows, all rows went.
        self.check(14, [*lines, "say 3 1 row 0 - no"])
        self.check(16, [
            *lines, "say 3 2 column 0 0 no", "say 4 1 row 0 - yes", "say 5 2 column 0 - no", "say 6 2 column 0 - no",
        ])

    def test_behind_the_last_line(self):
        for line in ("", " ", "next 3", "version 3", "row 1", "costs 7 4 5 1 1", "columns a"):
            self.check(14, [*self.lines, line])
            self.check(12, [*self.lines[:12], line])

    def test_lines_of_tables_among_sayings(self):
        self.check(12, [*self.lines[:12], "version 3", "columns a", *self.lines[12:]])

    def test_a_table_is_no_history(self):
        self.assertEqual(refused(read_history, "columns a\nrow 1"), 0)
        self.assertEqual(refused(read_table, TEXT), 0)


class Whatever(unittest.TestCase):
    def test_mixed_up_lines(self):
        numbers = by_hand.Numbers(3)
        seen = set()
        for seed in range(60):
            lines = show_history(by_hand_courses.some_history(seed)).split("\n")
            for _ in range(30):
                mixed = list(lines)
                at, other = numbers.below(len(lines)), numbers.below(len(lines))
                what = numbers.below(4)
                if what == 0:
                    mixed[at], mixed[other] = mixed[other], mixed[at]
                elif what == 1:
                    mixed[at] = mixed[other]
                elif what == 2:
                    mixed.insert(at, mixed[other])
                else:
                    words = mixed[at].split(" ")
                    words[numbers.below(len(words))] = numbers.one_of(mixed[other].split(" "))
                    mixed[at] = " ".join(words)
                text = "\n".join(mixed)
                found = refused(read_history, text)
                self.assertEqual(found, Judge(text).of_history(), text)
                seen.add(found is None)
        self.assertEqual(seen, {True, False})


if __name__ == "__main__":
    unittest.main()
