"""Section 16: the rows of a merge, what is in doubt about them, and evidence for the doubt."""

import unittest
from itertools import product

from by_hand_merges import NAMES, some_sides
from samples import any_values
from tableheld.costs import Costs
from tableheld.errors import BadSide, Doubt, HeldError, NoPlace, TooMany
from tableheld.merging import merge, shows_doubt
from tableheld.tables import Table


def column(*cells):
    """Return a table with a single column."""
    return Table(("a",), tuple([(cell,) for cell in cells]))


def merged_columns(base, ours, theirs, **costs):
    """Return the merge of tables with a single column, told by their cells."""
    return merge(column(*base), column(*ours), column(*theirs), Costs(**costs))


class BesideAllJointChoices(unittest.TestCase):
    """Small merges of which all joint choices can be gone through."""

    @classmethod
    def setUpClass(cls):
        cls.all = []
        for seed in range(1600):
            sides = some_sides(seed)
            if [] in sides.best or len(sides.best[0]) * len(sides.best[1]) > 400:
                continue
            try:
                sides.columns()
            except HeldError:
                continue
            merged = merge(
                sides.base, *sides.tables, sides.costs,
                for_ours=sides.conditions[0], for_theirs=sides.conditions[1],
            )
            cls.all.append((sides, merged, *sides.joint_choices()))

    def test_disagreement(self):
        for sides, merged, least, _ in self.all:
            self.assertEqual(merged.disagreement(), least, sides)
        self.assertGreater(len({least for _, _, least, _ in self.all}), 10)

    def test_outcomes(self):
        seen = set()
        for sides, merged, _, joints in self.all:
            for i in range(len(sides.base.rows)):
                found = merged.outcomes(i)
                self.assertEqual(found, sides.outcomes(joints, i), sides)
                seen.add(tuple([outcome[0] for outcome in found][:4]))
        self.assertLessEqual({
            ("gone",), ("row",), ("clash",), ("row", "row"), ("row", "row", "row"), ("gone", "row"), ("gone", "clash"),
            ("row", "clash"), ("gone", "row", "clash"),
        }, seen)

    def test_arrivals(self):
        seen = set()
        for sides, merged, _, joints in self.all:
            for at, side in enumerate(NAMES):
                found = merged.arrivals(side)
                self.assertEqual(found, sides.arrivals(joints, at), sides)
                seen.update([(side, word) for word in found])
        self.assertEqual(seen, set(product(NAMES, ("always", "sometimes", "never"))))

    def test_table(self):
        many = 0
        for sides, merged, _, joints in self.all:
            rows, spots = sides.table(joints)
            if rows is None:
                with self.assertRaises(Doubt) as caught:
                    merged.table()
                self.assertEqual(caught.exception.spots, spots, sides)
            elif len(rows) > 6:
                with self.assertRaises(TooMany):
                    merged.table()
            else:
                self.assertEqual(merged.table(), Table(merged.columns, rows), sides)
                many += any(len(merged.outcomes(i)) > 1 for i in range(len(sides.base.rows)))
        # Rows that are in doubt, while the merged ones are the same.
        self.assertGreater(many, 20)

    def test_doubt(self):
        kinds = {"twice": 0, "two": 0, "none": 0}
        for sides, merged, _, joints in self.all:
            doubt = merged.doubt()
            if sides.table(joints)[0] is None:
                self.assertTrue(sides.shows_doubt(joints, doubt), sides)
                self.assertIs(shows_doubt(merged, doubt), True)
                kinds["twice" if doubt[0] == doubt[1] else "two"] += 1
            else:
                self.assertIs(doubt, None)
                kinds["none"] += 1
        self.assertGreater(min(kinds.values()), 5)

    def test_shows_doubt(self):
        numbers = {True: 0, False: 0}
        for sides, merged, _, joints in self.all:
            every = list(product(*sides.best))
            chosen = every[:4] + every[4::max(1, len(every) // 4)]
            for pair in product(chosen, chosen):
                expected = sides.shows_doubt(joints, pair)
                self.assertIs(shows_doubt(merged, pair), expected, sides)
                numbers[expected] += 1
        self.assertGreater(min(numbers.values()), 500)


class Outcomes(unittest.TestCase):
    def check(self, base, ours, theirs, outcomes, **costs):
        merged = merge(base, ours, theirs, Costs(**costs))
        self.assertEqual([merged.outcomes(i) for i in range(len(base.rows))], outcomes)
        return merged

    def test_nothing_changed(self):
        merged = self.check(column(1, 2), column(2, 1), column(1, 2), [(("row", (1,)),), (("row", (2,)),)])
        self.assertEqual(merged.disagreement(), 0)
        self.assertEqual(merged.table(), column(1, 2))

    def test_gone_on_both_sides(self):
        merged = self.check(column(1, 2), column(2), column(2), [(("gone",),), (("row", (2,)),)])
        self.assertEqual(merged.disagreement(), 0)

    def test_gone_on_one_side(self):
        for ours, theirs in ((column(2), column(1, 2)), (column(1, 2), column(2))):
            merged = self.check(column(1, 2), ours, theirs, [(("gone",),), (("row", (2,)),)], row=7)
            self.assertEqual(merged.disagreement(), 7)

    def test_gone_on_one_side_and_changed_on_the_other(self):
        base, less = Table(("a", "b"), ((1, 2), (8, 9))), Table(("a", "b"), ((8, 9),))
        changed = Table(("a", "b"), ((1, 3), (8, 9)))
        for ours, theirs in ((less, changed), (changed, less)):
            merged = self.check(base, ours, theirs, [(("clash",),), (("row", (8, 9)),)])
            self.assertEqual(merged.disagreement(), 4)

    def test_gone_beside_a_column_that_went(self):
        # On the other side a column of base went: what is left of the row there is equal.
        base, less = Table(("a", "b"), ((1, 2), (8, 9))), Table(("a", "b"), ((8, 9),))
        narrow = column(1, 8)
        for ours, theirs in ((less, narrow), (narrow, less)):
            self.check(base, ours, theirs, [(("gone",),), (("row", (8,)),)], row=9)

    def test_gone_beside_a_column_that_came(self):
        base, less = column(1, 8), column(8)
        for cell, outcome in ((None, ("gone",)), (5, ("clash",)), (0, ("clash",))):
            wide = Table(("a", "b"), ((1, cell), (8, 7)))
            for ours, theirs in ((less, wide), (wide, less)):
                self.check(base, ours, theirs, [(outcome,), (("row", (8, 7)),)])

    def test_gone_where_a_cell_went_on_its_own_side(self):
        # On the side where the row went, the column went, too; the other side changed the cell there.
        base, ours = Table(("a", "b"), ((1, 2), (8, 9))), column(8)
        theirs = Table(("a", "b"), ((1, 3), (8, 9)))
        merged = merge(base, ours, theirs, Costs(row=9), for_theirs=(("row", 0, 0, True),))
        self.assertEqual([merged.outcomes(i) for i in (0, 1)], [(("clash",),), (("row", (8,)),)])

    def test_changed_on_one_side(self):
        for ours, theirs in ((column(1), column(2)), (column(2), column(1))):
            merged = self.check(column(1), ours, theirs, [(("row", (2,)),)])
            self.assertEqual(merged.disagreement(), 3)

    def test_changed_alike(self):
        merged = self.check(column(1), column(2), column(2), [(("row", (2,)),)])
        self.assertEqual(merged.disagreement(), 0)

    def test_changed_to_none(self):
        self.check(column(1), column(None), column(1), [(("row", (None,)),)])
        self.check(column(None), column("x"), column(None), [(("row", ("x",)),)])
        self.check(column(1), column(None), column(2), [(("clash",),)])

    def test_changed_in_other_columns(self):
        base = Table(("a", "b"), ((1, 2),))
        ours, theirs = Table(("a", "b"), ((5, 2),)), Table(("a", "b"), ((1, 6),))
        merged = self.check(base, ours, theirs, [(("row", (5, 6)),)], row=9)
        self.assertEqual(merged.disagreement(), 6)

    def test_changed_unlike(self):
        merged = self.check(column(1), column(2), column(3), [(("clash",),)])
        self.assertEqual(merged.disagreement(), 3)

    def test_a_column_went_on_one_side(self):
        base, narrow = Table(("a", "b"), ((1, 2),)), column(1)
        for cell, outcome in ((2, ("row", (1,))), (3, ("clash",))):
            wide = Table(("a", "b"), ((1, cell),))
            for ours, theirs in ((narrow, wide), (wide, narrow)):
                merged = self.check(base, ours, theirs, [(outcome,)])
                # Only columns that stay count.
                self.assertEqual(merged.disagreement(), 0)

    def test_a_column_went_on_both_sides(self):
        base, narrow = Table(("a", "b"), ((1, 2),)), column(1)
        self.check(base, narrow, narrow, [(("row", (1,)),)])

    def test_columns_that_came(self):
        ours, theirs = Table(("x", "a"), ((5, 1),)), Table(("a", "y"), ((1, None),))
        merged = self.check(column(1), ours, theirs, [(("row", (1, 5, None)),)])
        self.assertEqual(merged.columns, ("a", "x", "y"))

    def test_columns_in_another_sequence(self):
        base, ours = Table(("a", "b"), ((1, 2),)), Table(("b", "a"), ((2, 1),))
        theirs = Table(("a", "b"), ((1, 7),))
        self.check(base, ours, theirs, [(("row", (7, 1)),)])
        self.check(base, theirs, ours, [(("row", (7, 1)),)])

    def test_sequence_of_outcomes(self):
        # Any row of base may be any row, which are told in the usual sequence.
        merged = merged_columns((1, 1, 1, 1), ("b", 5, None, -3), (1, 1, 1, 1))
        rows = tuple([("row", (cell,)) for cell in (None, -3, 5, "b")])
        self.assertEqual(merged.outcomes(2), rows)
        # Row 0 went or became 2 on side ours; on side theirs it became 3, or it was left alone.
        merged = merged_columns((1, 1), (2,), (3, 1))
        self.assertEqual(merged.outcomes(0), (("gone",), ("row", (2,)), ("clash",)))
        self.assertEqual(merged_columns((1, 1), (2,), (3, 3)).outcomes(0), (("clash",),))

    def test_no_place(self):
        merged = merged_columns((1, 2), (1, 2, 3), (1, 2))
        for value in [*any_values(), 2]:
            if value in (0, 1) and not isinstance(value, bool):
                self.assertEqual(merged.outcomes(value), (("row", (value + 1,)),))
            else:
                with self.assertRaises(NoPlace) as caught:
                    merged.outcomes(value)
                self.assertIs(caught.exception.value, value)
        with self.assertRaises(NoPlace):
            merged_columns((), (1,), ()).outcomes(0)


class Arrivals(unittest.TestCase):
    def test_always_sometimes_never(self):
        merged = merged_columns((1,), (1, 2, 1), (1, 5))
        self.assertEqual(merged.arrivals("ours"), ("sometimes", "always", "sometimes"))
        self.assertEqual(merged.arrivals("theirs"), ("never", "always"))

    def test_no_rows(self):
        merged = merged_columns((), (), (1,))
        self.assertEqual(merged.arrivals("ours"), ())
        self.assertEqual(merged.arrivals("theirs"), ("always",))

    def test_only_joint_choices_that_count(self):
        # Each side may have changed either row; it counts that both changed the same one.
        merged = merged_columns((1, 1), (1, 2), (2, 1))
        self.assertEqual(merged.disagreement(), 0)
        self.assertEqual(merged.outcomes(0), (("row", (1,)), ("row", (2,))))
        self.assertEqual(merged.table(), column(1, 2))
        merged = merged_columns((1,), (2, 3), (2,))
        self.assertEqual(merged.arrivals("ours"), ("never", "always"))
        self.assertEqual(merged.table(), column(2, 3))

    def test_no_side(self):
        merged = merged_columns((1,), (1,), (1,))
        for value in [*any_values(), "our", "Ours", "base"]:
            with self.assertRaises(BadSide) as caught:
                merged.arrivals(value)
            self.assertIs(caught.exception.value, value)


class Tables(unittest.TestCase):
    def test_what_came_on_both_sides(self):
        for ours, theirs, rows in (
            ((5,), (5,), (5,)),
            ((5, 5), (5,), (5, 5)),
            ((5,), (5, 5, 5), (5, 5, 5)),
            ((5, 6), (7, 5), (5, 6, 7)),
            ((5, 5, 6), (6, 6, 5), (5, 5, 6, 6)),
        ):
            self.assertEqual(merged_columns((), ours, theirs).table(), column(*rows))
            self.assertEqual(merged_columns((1,), (1, *ours), (1, *theirs)).table(), column(1, *rows))

    def test_what_came_beside_one_that_stayed(self):
        # A row that came is another one than an equal row of base.
        self.assertEqual(merged_columns((5,), (5, 5), (5,)).table(), column(5, 5))
        self.assertEqual(merged_columns((5,), (5, 5), (5, 5)).table(), column(5, 5))

    def test_cells_that_a_side_does_not_have(self):
        ours, theirs = Table(("a", "x"), ((1, 2), (5, 6))), column(1, 7)
        merged = merge(column(1), ours, theirs, Costs())
        self.assertEqual(merged.table(), Table(("a", "x"), ((1, 2), (5, 6), (7, None))))

    def test_rows_that_came_are_compared_as_they_are_merged(self):
        # With None in the column that only ours has, both rows that came are the same.
        ours, theirs = Table(("a", "x"), ((1, 2), (7, None))), column(1, 7)
        self.assertEqual(merge(column(1), ours, theirs, Costs()).table(), Table(("a", "x"), ((1, 2), (7, None))))

    def test_cells_that_are_dropped(self):
        base, ours = Table(("a", "b"), ((1, 2),)), Table(("a", "b"), ((1, 2), (5, 6), (5, 7)))
        theirs = column(1, 5)
        # Without b, which went on side theirs, ours has two rows (5,), and theirs has one.
        self.assertEqual(merge(base, ours, theirs, Costs()).table(), column(1, 5, 5))

    def test_usual_sequence(self):
        merged = merged_columns(("x", 3), ("x", 3, None, -5), ("x", 3, "b", 2))
        self.assertEqual(merged.table(), column(None, -5, 2, 3, "b", "x"))

    def test_no_rows(self):
        self.assertEqual(merged_columns((1,), (), ()).table(), column())
        self.assertEqual(merged_columns((), (), ()).table(), column())

    def test_clash(self):
        with self.assertRaises(Doubt) as caught:
            merged_columns((1, 5, 6), (2, 5, 7), (3, 5, 8)).table()
        self.assertEqual(caught.exception.spots, (0, 2))

    def test_doubt_about_what_came_alone(self):
        # Either row of ours is the one of base, which becomes the same; the other one came.
        base, ours = Table(("a", "b"), ((1, 1),)), Table(("a", "b"), ((2, 1), (1, 2)))
        merged = merge(base, ours, Table(("a", "b"), ((2, 2),)), Costs())
        self.assertEqual(merged.outcomes(0), (("row", (2, 2)),))
        self.assertEqual(merged.arrivals("ours"), ("sometimes", "sometimes"))
        with self.assertRaises(Doubt) as caught:
            merged.table()
        self.assertEqual(caught.exception.spots, ())
        one, other = merged.doubt()
        self.assertNotEqual(one, other)
        self.assertTrue(shows_doubt(merged, (one, other)))
        self.assertTrue(shows_doubt(merged, (other, one)))
        self.assertFalse(shows_doubt(merged, (one, one)))

    def test_how_often_a_row_is_there_counts(self):
        # If 1 became 3, the 2 that came on both sides is the same row; if it became 2, another 2 came on side theirs.
        merged = merged_columns((1,), (2, 3), (1, 2))
        self.assertEqual(merged.outcomes(0), (("row", (2,)), ("row", (3,))))
        self.assertEqual(merged.arrivals("theirs"), ("never", "always"))
        with self.assertRaises(Doubt) as caught:
            merged.table()
        self.assertEqual(caught.exception.spots, (0,))
        self.assertTrue(shows_doubt(merged, merged.doubt()))

    def test_spots_have_all_that_are_in_doubt(self):
        # Rows 0 and 1 are in doubt only in which is which; row 2 has a clash.
        merged = merged_columns((1, 1, 5), (1, 1, 6), (1, 2, 7))
        with self.assertRaises(Doubt) as caught:
            merged.table()
        self.assertEqual(caught.exception.spots, (0, 1, 2))

    def test_more_than_six_rows(self):
        six, five = range(10, 16), range(20, 25)
        for base, ours, theirs in (((), six, five), ((1,), (1, *five), (1, *range(30, 35))), ((), six, (9,))):
            merged = merged_columns(base, ours, theirs)
            with self.assertRaises(TooMany) as caught:
                merged.table()
            self.assertEqual(caught.exception.limit, 6)
            self.assertIs(merged.doubt(), None)
        self.assertEqual(merged_columns((), six, six).table(), column(*six))

    def test_doubt_ahead_of_more_than_six_rows(self):
        merged = merged_columns((1,), (2, *range(10, 15)), (3, *range(20, 25)), row=50)
        with self.assertRaises(Doubt):
            merged.table()

    def test_a_table_is_made_anew(self):
        merged = merged_columns((1,), (2,), (1,))
        self.assertEqual(merged.table(), merged.table())


class GreatTables(unittest.TestCase):
    """Six rows on each side, with very many joint choices."""

    def test_rows_that_are_all_alike(self):
        merged = merged_columns((1,) * 6, (1,) * 6, (1,) * 6)
        self.assertEqual(merged.table(), column(*[1] * 6))
        self.assertEqual(merged.doubt(), None)

    def test_one_row_changed_on_each_side(self):
        merged = merged_columns((1,) * 6, (1, 1, 1, 1, 1, 2), (3, 1, 1, 1, 1, 1))
        # To change the same row disagrees least; that is a clash, whichever row it is.
        self.assertEqual(merged.disagreement(), 3)
        self.assertEqual(merged.outcomes(0), (("row", (1,)), ("clash",)))
        with self.assertRaises(Doubt) as caught:
            merged.table()
        self.assertEqual(caught.exception.spots, (0, 1, 2, 3, 4, 5))
        self.assertTrue(shows_doubt(merged, merged.doubt()))

    def test_every_pair_costs_as_much_as_to_leave_both_alone(self):
        base, ours, theirs = [Table(("a", "b"), tuple([(k, 1) for k in range(at, at + 6)])) for at in (0, 10, 20)]
        merged = merge(base, ours, theirs, Costs(cell=2, row=1, column=50))
        self.assertEqual(merged.disagreement(), 0)
        self.assertEqual(merged.outcomes(3), (("gone",),))
        self.assertEqual(merged.arrivals("theirs"), ("always",) * 6)
        with self.assertRaises(TooMany):
            merged.table()

    def test_all_rows_of_one_side_came(self):
        merged = merged_columns((1,) * 6, (1,) * 6, ())
        self.assertEqual(merged.disagreement(), 24)
        self.assertEqual(merged.table(), column())


class Evidence(unittest.TestCase):
    def setUp(self):
        self.clash = merged_columns((1,), (2,), (3,))
        self.alignment = (((0, 0),), ((0, 0),))
        self.choice = (self.alignment, self.alignment)

    def test_twice_the_same_with_a_clash(self):
        self.assertEqual(self.clash.doubt(), (self.choice, self.choice))
        self.assertTrue(shows_doubt(self.clash, (self.choice, self.choice)))

    def test_twice_the_same_without_a_clash(self):
        merged = merged_columns((1,), (2,), (1,))
        self.assertFalse(shows_doubt(merged, (self.choice, self.choice)))
        self.assertIs(merged.doubt(), None)

    def test_two_with_a_clash_and_the_same_rows(self):
        merged = merged_columns((1, 1), (2, 2), (3, 3))
        one = (((0, 0),), ((0, 0), (1, 1)))
        other = (((0, 0),), ((0, 1), (1, 0)))
        for choice in product((one, other), (one, other)):
            self.assertTrue(shows_doubt(merged, (choice, choice)))
        self.assertFalse(shows_doubt(merged, ((one, one), (other, other))))

    def test_one_that_does_not_count(self):
        merged = merged_columns((1, 1, 5), (1, 2, 6), (1, 2, 7))
        same, other = (((0, 0),), ((0, 0), (1, 1), (2, 2))), (((0, 0),), ((0, 1), (1, 0), (2, 2)))
        self.assertTrue(shows_doubt(merged, ((same, same), (same, same))))
        self.assertTrue(shows_doubt(merged, ((other, other), (other, other))))
        # Both are best on their sides, but together they disagree more.
        self.assertFalse(shows_doubt(merged, ((same, other), (same, other))))
        self.assertFalse(shows_doubt(merged, ((same, same), (same, other))))

    def test_no_best_alignment(self):
        for bad in (((), ()), (((0, 0),), ())):
            for choice in ((bad, self.alignment), (self.alignment, bad)):
                self.assertFalse(shows_doubt(self.clash, (choice, choice)))

    def test_conditions_are_kept(self):
        base, ours = column(1, 1), column(2, 2)
        merged = merge(base, ours, column(3, 3), Costs(), for_theirs=(("row", 0, 0, True),))
        one = (((0, 0),), ((0, 0), (1, 1)))
        other = (((0, 0),), ((0, 1), (1, 0)))
        self.assertTrue(shows_doubt(merged, ((other, one), (other, one))))
        self.assertFalse(shows_doubt(merged, ((one, other), (one, other))))

    def test_of_another_form(self):
        choice, alignment = self.choice, self.alignment
        for value in (
            None, choice, [choice, choice], (choice,), (choice, choice, choice), (choice, list(choice)),
            (choice, (*choice, alignment)), (choice, (alignment,)), ((alignment, list(alignment)), choice),
            (((((0, False),), ((0, 0),)), alignment), choice), ((), ()), (choice, None),
        ):
            self.assertIs(shows_doubt(self.clash, value), False)

    def test_any_values(self):
        for value in any_values():
            for given in (
                value, (value, value), (self.choice, value), (value, self.choice), ((value, value), (value, value)),
                ((self.alignment, value), self.choice), ((value, self.alignment),) * 2,
                (((((0, 0),), value), self.alignment),) * 2, ((((((0, value),)), ((0, 0),)), self.alignment),) * 2,
            ):
                expected = given == (self.choice, self.choice) and value is not False
                self.assertIs(shows_doubt(self.clash, given), expected)


if __name__ == "__main__":
    unittest.main()
