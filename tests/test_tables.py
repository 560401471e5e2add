"""Section 4: tables, their errors, their equality, and the usual sequence of rows."""

import unittest
from itertools import permutations

from samples import any_values, nested
from tableheld.errors import BadColumns, BadRow, BadRows, TooMany
from tableheld.tables import Table, usual_sequence

NO_CELLS = [
    True, False, 1000, -1000, 10 ** 5000, "", "abcdefghi", "A", "aB", "a1", "a b", " a", "a\n", "-", "?", "1",
    "\u00e9", "\u00df", "\uff41", "`", "{", (), ("a",), (1,), [], [1], {}, {"a": 1},
    nested(tuple, 18), nested(list, 18), nested(dict, 18),
]
NO_WORDS = [*NO_CELLS, None, 0, 1, -1, 999]


class Examples(unittest.TestCase):
    def test_rows_and_equality(self):
        self.assertEqual(
            [
                Table(("a", "b"), ((1, None), (-3, "x"))).rows,
                Table(("a",), ()) == Table(("a",), ()),
                Table(("a",), ()) == (),
            ],
            [((1, None), (-3, "x")), True, False],
        )

    def test_a_bool_is_no_cell(self):
        with self.assertRaises(BadRow) as caught:
            Table(("a",), ((1,), (True,)))
        self.assertEqual(caught.exception.value, (True,))
        self.assertIs(caught.exception.value[0], True)


class Right(unittest.TestCase):
    def check(self, columns, rows):
        table = Table(columns, rows)
        self.assertIs(table.columns, columns)
        self.assertIs(table.rows, rows)

    def test_one_to_three_columns(self):
        for columns in (("a",), ("a", "b"), ("b", "a"), ("a", "b", "c"), ("a", "aa", "aaa")):
            with self.subTest(columns):
                self.check(columns, ())

    def test_words_of_one_to_eight_letters(self):
        for word in ("a", "z", "ab", "abcdefg", "abcdefgh", "zzzzzzzz", "none", "true"):
            with self.subTest(word):
                self.check((word,), ((word,),))

    def test_every_letter(self):
        for letter in "abcdefghijklmnopqrstuvwxyz":
            self.check((letter,), ((letter,),))

    def test_bounds_of_cells(self):
        for cell in (None, -999, -998, -1, 0, 1, 998, 999):
            with self.subTest(cell):
                self.check(("a",), ((cell,),))

    def test_cells_of_all_kinds_in_each_column(self):
        self.check(("a", "b", "c"), ((None, 0, "a"), (1, "b", None), ("c", None, -1)))

    def test_no_rows_and_six_rows(self):
        self.check(("a",), ())
        self.check(("a",), ((1,), (2,), (3,), (4,), (5,), (6,)))

    def test_equal_rows(self):
        self.check(("a", "b"), ((1, None),) * 6)

    def test_rows_stay_in_their_sequence(self):
        self.check(("a",), ((3,), ("x",), (None,), (1,)))

    def test_attributes_are_set_when_it_is_made(self):
        self.assertEqual(vars(Table(("a",), ((1,),))), {"columns": ("a",), "rows": ((1,),)})


class Wrong(unittest.TestCase):
    def check(self, error, value, columns, rows):
        with self.assertRaises(error) as caught:
            Table(columns, rows)
        self.assertIs(type(caught.exception), error)
        self.assertIs(caught.exception.value, value)

    def check_columns(self, columns):
        self.check(BadColumns, columns, columns, ())

    def check_row(self, row, columns=("a",)):
        """The row is found wherever it stands; what stands behind it may be wrong, too."""
        good = (1,) * len(columns)
        for rows in ((row,), (good, row), (row, good), (good, good, good, good, good, row), (row, [1], None)):
            self.check(BadRow, row, columns, rows)

    def test_columns_that_are_no_tuple_of_words(self):
        for at, columns in enumerate(any_values()):
            if columns != ("a",):
                with self.subTest(at=at):
                    self.check_columns(columns)

    def test_how_many_columns(self):
        self.check_columns(())
        self.check_columns(("a", "b", "c", "d"))
        self.check_columns(tuple("abcdefgh"))

    def test_equal_columns(self):
        for columns in (("a", "a"), ("a", "b", "a"), ("b", "a", "a"), ("a", "a", "b"), ("a", "a", "a")):
            with self.subTest(columns):
                self.check_columns(columns)

    def test_columns_that_are_no_words(self):
        for at, word in enumerate(NO_WORDS):
            for columns in ((word,), ("a", word), (word, "b"), ("a", "b", word), ("a", word, "b"), (word, word)):
                with self.subTest(at=at):
                    self.check_columns(columns)

    def test_a_list_of_columns_is_no_tuple(self):
        self.check_columns(["a", "b"])

    def test_rows_that_are_no_tuple(self):
        for at, rows in enumerate(any_values()):
            if not isinstance(rows, tuple):
                with self.subTest(at=at):
                    self.check(BadRows, rows, ("a",), rows)
        rows = [(1,), (2,)]
        self.check(BadRows, rows, ("a",), rows)

    def test_more_than_six_rows(self):
        for many in (7, 8, 100):
            with self.subTest(many):
                with self.assertRaises(TooMany) as caught:
                    Table(("a",), ((1,),) * many)
                self.assertEqual(caught.exception.limit, 6)

    def test_rows_that_are_no_tuple_of_cells(self):
        for at, row in enumerate(any_values()):
            if row not in (("a",), (None,)):
                with self.subTest(at=at):
                    self.check_row(row)

    def test_a_list_is_no_row(self):
        self.check_row([1])
        self.check_row([1, 2], ("a", "b"))

    def test_shorter_and_longer_rows(self):
        for columns, row in (
            (("a",), ()), (("a",), (1, 2)), (("a", "b"), (1,)), (("a", "b"), (1, 2, 3)), (("a", "b"), ()),
            (("a", "b", "c"), (1, 2)), (("a", "b", "c"), (1, 2, 3, 4)),
        ):
            with self.subTest(columns=columns, row=row):
                self.check_row(row, columns)

    def test_cells_that_are_no_cells(self):
        for at, cell in enumerate(NO_CELLS):
            for columns, row in (
                (("a",), (cell,)), (("a", "b"), (1, cell)), (("a", "b"), (cell, None)),
                (("a", "b", "c"), ("x", cell, 1)),
            ):
                with self.subTest(at=at, columns=columns):
                    self.check_row(row, columns)

    def test_of_equal_wrong_rows_the_first_one_is_told(self):
        first, second = [1], [1]
        self.check(BadRow, first, ("a",), ((1,), first, second))

    def test_a_row_that_equals_a_right_one_is_still_wrong(self):
        row = (True,)
        self.check(BadRow, row, ("a",), ((1,), row))


class SeveralErrors(unittest.TestCase):
    BAD_ROWS = ([1],) * 6
    MANY_BAD_ROWS = ([1],) * 7

    def test_columns_come_first(self):
        for rows in (None, [], self.BAD_ROWS, self.MANY_BAD_ROWS):
            with self.assertRaises(BadColumns) as caught:
                Table(("a", "a"), rows)
            self.assertEqual(caught.exception.value, ("a", "a"))

    def test_rows_that_are_no_tuple_come_before_their_number_and_members(self):
        rows = [[1]] * 7
        with self.assertRaises(BadRows) as caught:
            Table(("a",), rows)
        self.assertIs(caught.exception.value, rows)

    def test_their_number_comes_before_their_members(self):
        with self.assertRaises(TooMany) as caught:
            Table(("a",), self.MANY_BAD_ROWS)
        self.assertEqual(caught.exception.limit, 6)

    def test_members_come_last(self):
        with self.assertRaises(BadRow) as caught:
            Table(("a",), self.BAD_ROWS)
        self.assertIs(caught.exception.value, self.BAD_ROWS[0])


class Equality(unittest.TestCase):
    def table(self, columns=("a", "b"), rows=((1, "x"), (None, 2))):
        # Copies by way of lists, so that equal tables share no tuples.
        return Table(tuple(list(columns)), tuple([tuple(list(row)) for row in rows]))

    def check_unlike(self, one, other):
        self.assertIs(one == other, False)
        self.assertIs(other == one, False)
        self.assertIs(one != other, True)

    def test_tables_made_apart_from_the_same_are_equal(self):
        self.assertIs(self.table() == self.table(), True)
        self.assertIs(self.table() != self.table(), False)
        table = self.table()
        self.assertIs(table == table, True)

    def test_one_cell_otherwise(self):
        for rows in (((2, "x"), (None, 2)), ((1, "y"), (None, 2)), ((1, "x"), (0, 2)), ((1, "x"), (None, -2))):
            self.check_unlike(self.table(), self.table(rows=rows))

    def test_one_name_otherwise(self):
        self.check_unlike(self.table(), self.table(("a", "c")))
        self.check_unlike(self.table(), self.table(("c", "b")))

    def test_another_sequence_of_columns(self):
        self.check_unlike(self.table(), self.table(("b", "a")))
        self.check_unlike(self.table(), self.table(("b", "a"), (("x", 1), (2, None))))

    def test_another_sequence_of_rows(self):
        self.check_unlike(self.table(), self.table(rows=((None, 2), (1, "x"))))

    def test_another_number_of_rows_or_columns(self):
        self.check_unlike(self.table(), self.table(rows=((1, "x"),)))
        self.check_unlike(self.table(), self.table(rows=()))
        self.check_unlike(self.table(rows=()), self.table(("a",), ()))
        self.check_unlike(self.table(rows=((1, "x"),)), self.table(rows=((1, "x"), (1, "x"))))

    def test_a_table_equals_nothing_else(self):
        table = self.table()
        for at, value in enumerate(any_values()):
            with self.subTest(at=at):
                self.check_unlike(table, value)
        both = (table.columns, table.rows)
        for value in (both, list(both), table.rows, (table,), vars(table), Table):
            self.check_unlike(table, value)


class UsualSequence(unittest.TestCase):
    def test_none_then_integers_then_words(self):
        self.assertEqual(
            usual_sequence((("b",), (10,), ("a",), (None,), (-3,), ("aa",), (9,), (-20,), (0,))),
            ((None,), (-20,), (-3,), (0,), (9,), (10,), ("a",), ("aa",), ("b",)),
        )

    def test_cell_by_cell_from_the_left(self):
        rows = ((None, "z"), (0, "a"), (1, None), (1, -5), (1, 7), (1, "a"), ("a", 0), ("b", None))
        self.assertEqual(usual_sequence(tuple(reversed(rows))), rows)
        self.assertEqual(usual_sequence(rows[4:] + rows[:4]), rows)

    def test_three_columns_from_every_sequence(self):
        rows = ((None, 1, "b"), (None, 1, "c"), (2, None, 0), (2, 3, None), ("x", None, None))
        for mixed in permutations(rows):
            self.assertEqual(usual_sequence(mixed), rows)

    def test_equal_rows_stay_as_often_as_they_are_there(self):
        self.assertEqual(usual_sequence(((2,), (1,), (2,), (1,), (1,))), ((1,), (1,), (1,), (2,), (2,)))

    def test_no_rows(self):
        self.assertEqual(usual_sequence(()), ())


if __name__ == "__main__":
    unittest.main()
