"""Section 15: the columns of a merge, and which error comes first if there is none."""

import unittest

from by_hand_merges import some_sides
from samples import any_values
from tableheld.costs import Costs
from tableheld.errors import BadCondition, ColumnClash, HeldError, NoAlignment, TooMany, Unsure
from tableheld.merging import merge
from tableheld.tables import Table

# Cells that tell the columns apart, whatever they are called: columns are dear, and so are unlike cells.
CELLS = {"p": (1, 2, 3), "q": (11, 12, 13), "r": (21, 22, 23), "s": (31, 32, 33), "t": (41, 42, 43)}
COSTS = Costs(cell=9, row=50, column=10)


def table(**columns):
    """Return a table with these columns: their names, and the names of their cells."""
    return Table(tuple(columns), tuple(zip(*[CELLS[cells] for cells in columns.values()])))


def told(call):
    """Return what a call returns, or the name and the arguments of the error that it raises."""
    try:
        return call()
    except HeldError as error:
        return type(error).__name__, vars(error)


BASE = table(a="p", b="q", c="r")


class Columns(unittest.TestCase):
    def check(self, base, ours, theirs, columns):
        merged = merge(base, ours, theirs, COSTS)
        self.assertEqual(merged.columns, columns)
        self.assertIs(type(merged.columns), tuple)
        self.assertEqual(merged.table().columns, columns)
        self.assertEqual(merge(base, theirs, ours, COSTS).table().columns, columns)

    def clash(self, word, base, ours, theirs):
        for one, other in ((ours, theirs), (theirs, ours)):
            with self.assertRaises(ColumnClash) as caught:
                merge(base, one, other, COSTS)
            self.assertEqual(caught.exception.word, word)

    def test_nothing_changed(self):
        self.check(BASE, BASE, BASE, ("a", "b", "c"))

    def test_one_side_changed_nothing(self):
        for changed in (
            table(a="p", x="q", c="r"), table(c="r", a="p", b="q"), table(a="p", c="r"), table(y="r", x="p"),
        ):
            self.check(BASE, BASE, changed, changed.columns)

    def test_both_sides_did_the_same(self):
        for changed in (
            table(a="p", x="q", c="r"), table(c="r", a="p", b="q"), table(a="p", c="r"), table(y="r", x="p"),
        ):
            self.check(BASE, changed, changed, changed.columns)

    def test_names_of_both_sides(self):
        self.check(BASE, table(x="p", b="q", c="r"), table(a="p", y="q", c="r"), ("x", "y", "c"))
        self.check(BASE, table(x="p", b="q", z="r"), table(x="p", y="q", c="r"), ("x", "y", "z"))

    def test_names_are_exchanged(self):
        self.check(table(a="p", b="q"), table(b="p", a="q"), table(a="p", b="q"), ("b", "a"))

    def test_clash_of_names(self):
        self.clash("name", BASE, table(x="p", b="q", c="r"), table(y="p", b="q", c="r"))
        self.clash("name", BASE, table(a="p", b="q", x="r"), table(a="p", b="q", y="r"))

    def test_names_of_what_went_do_not_clash(self):
        self.check(BASE, table(x="p", b="q"), table(a="p", b="q", y="r"), ("x", "b"))

    def test_sequence_of_one_side(self):
        self.check(BASE, table(c="r", b="q", a="p"), table(a="p", b="q", x="r"), ("x", "b", "a"))

    def test_sequence_of_those_that_stay(self):
        # On side ours, b and c are in the sequence of base, though a, which went, was not.
        self.check(BASE, table(b="q", c="r", a="p"), table(c="r", b="q"), ("c", "b"))

    def test_same_sequence_of_those_that_stay(self):
        self.check(BASE, table(c="r", a="p", b="q"), table(c="r", a="p"), ("c", "a"))

    def test_clash_of_sequences(self):
        self.clash("sequence", BASE, table(c="r", a="p", b="q"), table(b="q", a="p", c="r"))
        self.clash("sequence", BASE, table(b="q", c="r", a="p"), table(c="r", b="q", a="p"))

    def test_came_on_one_side(self):
        base = table(a="p", b="q")
        self.check(base, base, table(a="p", b="q", c="r"), ("a", "b", "c"))
        self.check(base, base, table(c="r", a="p", b="q"), ("a", "b", "c"))
        self.check(base, table(b="q", a="p"), table(c="r", a="p", b="q"), ("b", "a", "c"))

    def test_came_on_both_sides(self):
        base, ours, theirs = table(a="p"), table(x="q", a="p"), table(y="r", a="p")
        self.assertEqual(merge(base, ours, theirs, COSTS).columns, ("a", "x", "y"))
        self.assertEqual(merge(base, theirs, ours, COSTS).columns, ("a", "y", "x"))

    def test_came_in_their_sequence(self):
        base = table(a="p")
        self.check(base, base, table(z="r", a="p", y="q"), ("a", "z", "y"))
        self.check(base, base, table(y="q", z="r", a="p"), ("a", "y", "z"))

    def test_went_and_came(self):
        base = table(a="p", b="q")
        self.check(base, table(b="q", x="r"), table(a="p", b="q"), ("b", "x"))
        self.check(base, table(b="q", x="r"), table(a="p"), ("x",))

    def test_clash_of_two_with_the_same_name(self):
        base = table(a="p", b="q")
        self.clash("double", base, table(a="p", b="q", x="r"), table(a="p", b="q", x="r"))
        self.clash("double", base, table(x="p", b="q"), table(a="p", x="q"))
        self.clash("double", base, table(x="p", b="q"), table(a="p", b="q", x="r"))

    def test_a_name_that_is_free_again(self):
        base = table(a="p", b="q")
        # a went, and what came has its name.
        self.check(base, table(b="q", a="r"), table(a="p", b="q"), ("b", "a"))

    def test_more_than_three(self):
        base = table(a="p", b="q")
        for ours, theirs in (
            (table(a="p", b="q", x="r"), table(a="p", b="q", y="s")),
            (table(a="p", b="q", x="r"), table(y="s", b="q", a="p")),
        ):
            with self.assertRaises(TooMany) as caught:
                merge(base, ours, theirs, COSTS)
            self.assertEqual(caught.exception.limit, 3)
        self.check(base, table(a="p", x="r"), table(a="p", b="q"), ("a", "x"))
        self.assertEqual(merge(base, table(b="q", x="r"), table(b="q", y="s"), COSTS).columns, ("b", "x", "y"))

    def test_none(self):
        base = table(a="p", b="q")
        self.clash("none", base, table(a="p"), table(b="q"))

    def test_all_went_and_others_came(self):
        # To leave columns alone costs less here than to give them another name.
        costs = Costs(column=1, name=3)
        base, ours, theirs = Table(("a",), ()), Table(("x",), ()), Table(("y",), ())
        self.assertEqual(merge(base, ours, base, costs).columns, ("x",))
        self.assertEqual(merge(base, base, theirs, costs).columns, ("y",))
        self.assertEqual(merge(base, ours, theirs, costs).columns, ("x", "y"))


class WhichErrorIsFirst(unittest.TestCase):
    def check(self, base, ours, theirs, expected, **conditions):
        self.assertEqual(told(lambda: merge(base, ours, theirs, COSTS, **conditions)), expected)

    def test_name_ahead_of_sequence_and_double(self):
        self.check(
            BASE, table(c="r", x="p", b="q"), table(b="q", y="p", c="r"), ("ColumnClash", {"word": "name"}),
        )
        self.check(
            table(a="p", b="q"), table(x="p", b="q", z="r"), table(y="p", b="q", z="r"),
            ("ColumnClash", {"word": "name"}),
        )

    def test_sequence_ahead_of_double(self):
        self.check(
            BASE, table(c="r", x="p", b="q"), table(x="q", a="p", c="r"), ("ColumnClash", {"word": "sequence"}),
        )

    def test_double_ahead_of_too_many(self):
        self.check(
            table(a="p", b="q"), table(a="p", b="q", x="r"), table(a="p", b="q", x="s"),
            ("ColumnClash", {"word": "double"}),
        )

    def test_unsure_ahead_of_clash(self):
        ours, theirs = table(x="p", b="q"), table(y="p", b="q")
        base = table(a="p", b="q")
        self.check(base, ours, theirs, ("ColumnClash", {"word": "name"}))
        rows = ((1, 2), (2, 1))
        base, ours = Table(("a", "b"), rows), Table(("b", "a"), rows)
        self.assertEqual(
            told(lambda: merge(base, ours, Table(("x", "y"), rows), Costs(move=2))),
            ("Unsure", {"side": "ours", "spot": 0}),
        )


class UnsureSides(unittest.TestCase):
    def test_which_side(self):
        rows = ((1, 2), (2, 1))
        base, changed = Table(("a", "b"), rows), Table(("b", "a"), rows)
        costs = Costs(move=2)
        for ours, theirs, side in ((changed, base, "ours"), (base, changed, "theirs"), (changed, changed, "ours")):
            with self.assertRaises(Unsure) as caught:
                merge(base, ours, theirs, costs)
            self.assertEqual(vars(caught.exception), {"side": side, "spot": 0})

    def test_which_spot(self):
        rows = ((1, 5, 6), (1, 6, 5))
        base = Table(("a", "b", "c"), rows)
        changed = Table(("a", "c", "b"), rows)
        with self.assertRaises(Unsure) as caught:
            merge(base, base, changed, Costs(move=2))
        self.assertEqual(vars(caught.exception), {"side": "theirs", "spot": 1})

    def test_that_it_went_counts(self):
        # To pair the columns costs as much as to leave them alone.
        base, changed = Table(("a",), ()), Table(("b",), ())
        with self.assertRaises(Unsure) as caught:
            merge(base, base, changed, Costs(column=1, name=2))
        self.assertEqual(vars(caught.exception), {"side": "theirs", "spot": 0})
        self.assertEqual(merge(base, base, changed, Costs(column=1, name=1)).columns, ("b",))

    def test_that_rows_are_in_doubt_does_not_count(self):
        base = Table(("a",), ((1,), (1,)))
        self.assertEqual(merge(base, base, base, Costs()).columns, ("a",))

    def test_conditions_leave_no_doubt(self):
        rows = ((1, 2), (2, 1))
        base, changed = Table(("a", "b"), rows), Table(("b", "a"), rows)
        costs = Costs(move=2)
        for j, columns in ((0, ("b", "a")), (1, ("b", "a"))):
            conditions = (("column", 0, j, True),)
            self.assertEqual(merge(base, changed, base, costs, for_ours=conditions).columns, columns)
            self.assertEqual(merge(base, base, changed, costs, for_theirs=conditions).columns, columns)
            merged = merge(base, changed, changed, costs, for_ours=conditions, for_theirs=conditions)
            self.assertEqual(merged.columns, columns)
        with self.assertRaises(Unsure) as caught:
            merge(base, changed, changed, costs, for_ours=(("column", 0, 0, True),))
        self.assertEqual(caught.exception.side, "theirs")


class Conditions(unittest.TestCase):
    """What is said for one side counts there, and the errors come side by side."""

    def setUp(self):
        self.base = Table(("a",), ((1,), (2,)))
        self.ours, self.theirs = Table(("a",), ((1,), (2,), (3,))), Table(("a",), ((1,),))
        self.given = (self.base, self.ours, self.theirs, Costs())

    def test_by_name_alone(self):
        with self.assertRaises(TypeError):
            merge(*self.given, ())

    def test_places_are_those_of_the_side(self):
        merge(*self.given, for_ours=(("row", 0, 2, False),))
        bad = ("row", 0, 2, False)
        with self.assertRaises(BadCondition) as caught:
            merge(*self.given, for_theirs=(bad,))
        self.assertIs(caught.exception.value, bad)

    def test_each_counts_on_its_side(self):
        self.assertEqual(merge(*self.given).table().rows, ((1,), (3,)))
        merged = merge(*self.given, for_theirs=(("row", 1, 0, True),))
        self.assertEqual(merged.arrivals("theirs"), ("never",))
        self.assertEqual(merged.outcomes(0), (("gone",),))
        merged = merge(*self.given, for_ours=(("row", None, 0, True),))
        self.assertEqual(merged.arrivals("ours")[0], "always")

    def test_bad_ones_of_the_first_side_first(self):
        ours, theirs = [1], [2]
        with self.assertRaises(BadCondition) as caught:
            merge(*self.given, for_ours=ours, for_theirs=theirs)
        self.assertIs(caught.exception.value, ours)
        with self.assertRaises(BadCondition) as caught:
            merge(*self.given, for_theirs=theirs)
        self.assertIs(caught.exception.value, theirs)

    def test_no_alignment_of_the_first_side_ahead_of_the_second(self):
        hopeless = (("row", 0, 0, True), ("row", 0, 0, False))
        with self.assertRaises(NoAlignment):
            merge(*self.given, for_ours=hopeless, for_theirs=[])
        with self.assertRaises(BadCondition):
            merge(*self.given, for_ours=[], for_theirs=hopeless)
        with self.assertRaises(NoAlignment):
            merge(*self.given, for_theirs=hopeless)

    def test_no_alignment_ahead_of_unsure(self):
        rows = ((1, 2), (2, 1))
        base, changed = Table(("a", "b"), rows), Table(("b", "a"), rows)
        with self.assertRaises(NoAlignment):
            merge(base, changed, base, Costs(move=2), for_theirs=(("row", 0, 0, True), ("row", 0, 0, False)))

    def test_more_than_forty(self):
        many = (("row", 0, 0, True),) * 41
        with self.assertRaises(BadCondition) as caught:
            merge(*self.given, for_ours=many)
        self.assertIs(caught.exception.value, many)
        merge(*self.given, for_ours=many[1:], for_theirs=many[1:])

    def test_any_values(self):
        for value in any_values():
            for conditions in ({"for_ours": value}, {"for_theirs": value}):
                if value == ():
                    merge(*self.given, **conditions)
                else:
                    with self.assertRaises(BadCondition) as caught:
                        merge(*self.given, **conditions)
                    expected = value[0] if isinstance(value, tuple) else value
                    self.assertIs(caught.exception.value, expected)


class BesideAllAlignments(unittest.TestCase):
    def test_columns_and_errors(self):
        kinds = set()
        for seed in range(2500):
            sides = some_sides(seed)
            given = (sides.base, *sides.tables, sides.costs)
            conditions = {"for_ours": sides.conditions[0], "for_theirs": sides.conditions[1]}
            found = told(lambda: merge(*given, **conditions))
            if [] in sides.best:
                self.assertEqual(found, ("NoAlignment", {}))
                continue
            expected = told(sides.columns)
            if isinstance(expected, tuple):
                self.assertEqual(found, expected)
                kinds.add(str(expected))
            else:
                self.assertEqual(found.columns, tuple([name for name, _, _, _ in expected]))
        self.assertGreaterEqual(len(kinds), 6)


if __name__ == "__main__":
    unittest.main()
