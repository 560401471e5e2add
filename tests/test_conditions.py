"""Section 7: what a condition is, and what keeps it."""

import unittest
from itertools import product

import by_hand
from samples import any_values, nested
from tableheld.alignments import is_alignment, keeps
from tableheld.comparing import compare
from tableheld.costs import Costs
from tableheld.errors import BadAlignment, BadCondition, NoAlignment
from tableheld.leasts import least, shows_least
from tableheld.tables import Table

ONE = Table(("a", "b"), ((1, 2), (3, 4), (5, 6)))
OTHER = Table(("b", "c", "a"), ((2, 1, 0), (4, 3, 0)))
ALIGNMENT = (((0, 2),), ((0, 1), (2, 0)))
# Of the places of ALIGNMENT, column 1 and row 1 went, columns 0 and 1 came.
GOOD = ("row", 0, 1, True)


class Examples(unittest.TestCase):
    def test_keeps(self):
        one, other = Table(("a",), ((1,), (2,))), Table(("a",), ((2,), (3,)))
        self.assertEqual(
            [
                keeps(one, other, (((0, 0),), ((1, 0),)), (("row", 1, 0, True), ("row", 0, None, True))),
                keeps(one, other, (((0, 0),), ((1, 0),)), (("row", None, 1, False),)),
            ],
            [True, False],
        )

    def test_the_first_that_is_none(self):
        one, other = Table(("a",), ((1,), (2,))), Table(("a",), ((2,), (3,)))
        with self.assertRaises(BadCondition) as caught:
            keeps(one, other, ((), ()), (("row", 0, 0, True), ("row", 2, 0, True)))
        self.assertEqual(caught.exception.value, ("row", 2, 0, True))


class Claims(unittest.TestCase):
    def check(self, kind, i, j, truth):
        self.assertIs(keeps(ONE, OTHER, ALIGNMENT, ((kind, i, j, truth),)), True)
        self.assertIs(keeps(ONE, OTHER, ALIGNMENT, ((kind, i, j, not truth),)), False)

    def test_pairs(self):
        for kind, i, j, truth in (
            ("row", 0, 1, True), ("row", 2, 0, True), ("row", 0, 0, False), ("row", 1, 1, False), ("row", 1, 0, False),
            ("row", 2, 1, False), ("column", 0, 2, True), ("column", 0, 0, False), ("column", 1, 2, False),
            ("column", 1, 0, False), ("column", 1, 1, False),
        ):
            with self.subTest(kind, i=i, j=j):
                self.check(kind, i, j, truth)

    def test_went(self):
        for kind, i, truth in (
            ("row", 0, False), ("row", 1, True), ("row", 2, False), ("column", 0, False), ("column", 1, True),
        ):
            with self.subTest(kind, i=i):
                self.check(kind, i, None, truth)

    def test_came(self):
        for kind, j, truth in (
            ("row", 0, False), ("row", 1, False), ("column", 0, True), ("column", 1, True), ("column", 2, False),
        ):
            with self.subTest(kind, j=j):
                self.check(kind, None, j, truth)
        self.assertIs(keeps(ONE, OTHER, (((0, 2),), ((1, 1),)), (("row", None, 0, True),)), True)

    def test_all_claims_of_all_alignments(self):
        one, other = Table(("a", "b"), ((1, 2), (3, 4))), Table(("a", "b"), ((2, 1), (4, 3)))
        for alignment in by_hand.alignments(one, other):
            for claim in by_hand.claims(one, other):
                for truth in (True, False):
                    self.assertIs(
                        keeps(one, other, alignment, ((*claim, truth),)), by_hand.is_true(alignment, *claim) == truth
                    )


class Several(unittest.TestCase):
    def test_none(self):
        self.assertIs(keeps(ONE, OTHER, ALIGNMENT, ()), True)
        self.assertIs(keeps(ONE, OTHER, ((), ()), ()), True)

    def test_all_must_be_kept(self):
        kept = (("row", 0, 1, True), ("row", 1, None, True), ("column", None, 0, True), ("column", 0, 1, False))
        self.assertIs(keeps(ONE, OTHER, ALIGNMENT, kept), True)
        self.assertIs(keeps(ONE, OTHER, ALIGNMENT, kept[::-1]), True)
        for at in range(len(kept)):
            kind, i, j, truth = kept[at]
            self.assertIs(keeps(ONE, OTHER, ALIGNMENT, (*kept[:at], (kind, i, j, not truth), *kept[at + 1:])), False)

    def test_the_same_twice(self):
        self.assertIs(keeps(ONE, OTHER, ALIGNMENT, (GOOD, GOOD)), True)
        self.assertIs(keeps(ONE, OTHER, ALIGNMENT, (("row", 0, 1, False), ("row", 0, 1, False))), False)

    def test_one_with_the_other_truth(self):
        for alignment in (ALIGNMENT, ((), ()), (((0, 0),), ())):
            for both in ((GOOD, ("row", 0, 1, False)), (("row", 0, 1, False), GOOD)):
                self.assertIs(keeps(ONE, OTHER, alignment, both), False)

    def test_forty(self):
        self.assertIs(keeps(ONE, OTHER, ALIGNMENT, (GOOD,) * 40), True)
        self.assertIs(keeps(ONE, OTHER, ALIGNMENT, (GOOD,) * 39 + (("column", 1, None, False),)), False)
        self.assertIs(keeps(ONE, OTHER, ALIGNMENT, (("column", 1, None, False),) + (GOOD,) * 39), False)

    def test_forty_that_are_different(self):
        claims = by_hand.claims(ONE, OTHER)
        true = [(*claim, by_hand.is_true(ALIGNMENT, *claim)) for claim in claims]
        false = [(kind, i, j, not truth) for kind, i, j, truth in true]
        forty = tuple((true + true)[:40])
        self.assertIs(keeps(ONE, OTHER, ALIGNMENT, forty), True)
        for at in range(len(true)):
            self.assertIs(keeps(ONE, OTHER, ALIGNMENT, (*forty[:at], false[at], *forty[at + 1:])), False)


def calls(value):
    """Return every call that takes conditions, with this value for them."""
    return {
        "keeps": lambda: keeps(ONE, OTHER, ALIGNMENT, value),
        "least": lambda: least(ONE, OTHER, Costs(), value),
        "shows_least": lambda: shows_least(ONE, OTHER, Costs(), value, 0, ()),
        "compare": lambda: compare(ONE, OTHER, Costs(), value),
    }


class Wrong(unittest.TestCase):
    def check(self, conditions, value):
        for name, call in calls(conditions).items():
            with self.subTest(name):
                with self.assertRaises(BadCondition) as caught:
                    call()
                self.assertIs(type(caught.exception), BadCondition)
                self.assertIs(caught.exception.value, value)

    def check_one(self, condition):
        """It is told wherever it stands, and if another wrong one stands behind it."""
        for conditions in (
            (condition,), (GOOD, condition), (condition, GOOD), (GOOD,) * 39 + (condition,), (condition,) * 2,
            (condition, None), (GOOD, condition, ["row", 0, 0, True]),
        ):
            self.check(conditions, condition)

    def test_no_tuple(self):
        for at, value in enumerate(any_values()):
            if not isinstance(value, tuple):
                with self.subTest(at=at):
                    self.check(value, value)
        value = [GOOD]
        self.check(value, value)

    def test_forty_one(self):
        for many in (41, 42, 100):
            value = (GOOD,) * many
            self.check(value, value)

    def test_more_than_forty_come_ahead_of_their_members(self):
        value = (None,) * 41
        self.check(value, value)
        self.check((None,) * 40, None)

    def test_no_tuple_comes_ahead_of_its_members(self):
        value = [("row", 9, 9, True)]
        self.check(value, value)

    def test_the_first_member_that_is_none(self):
        first, second = ["a"], ["b"]
        self.check((GOOD, first, second), first)
        self.check((first, GOOD, second), first)
        self.check((GOOD, GOOD, second, first), second)

    def test_of_equal_members_the_first_one(self):
        first, second = ("row", [0], 0, True), ("row", [0], 0, True)
        self.check((GOOD, first, second), first)

    def test_members_of_any_kind(self):
        for at in range(len(any_values())):
            with self.subTest(at=at):
                self.check_one(any_values()[at])

    def test_a_list_is_no_condition(self):
        self.check_one(["row", 0, 0, True])

    def test_other_lengths(self):
        for condition in (("row", 0, 0), ("row", 0, 0, True, True), ("row", 0), ("row",), ("row", 0, 0, True, None)):
            self.check_one(condition)

    def test_the_conditions_themselves_are_one_condition(self):
        self.check(GOOD, "row")

    def test_other_kinds(self):
        for kind in any_values() + ["cell", "rows", "Row", "columns", "COLUMN", ("row",), ["row"], "row ", "col"]:
            self.check_one((kind, 0, 0, True))

    def test_both_places_none(self):
        for kind, truth in product(("row", "column"), (True, False)):
            self.check_one((kind, None, None, truth))

    def test_bools_are_no_places(self):
        for kind, place in product(("row", "column"), (True, False)):
            self.check_one((kind, place, 0, True))
            self.check_one((kind, 0, place, True))
            self.check_one((kind, place, None, True))
            self.check_one((kind, None, place, False))

    def test_words_are_no_places(self):
        for kind, place in product(("row", "column"), ("a", "0", "", "None")):
            self.check_one((kind, place, 0, True))
            self.check_one((kind, 0, place, True))
            self.check_one((kind, None, place, True))

    def test_places_beyond_the_tables(self):
        for condition in (
            ("row", 3, 0, True), ("row", 3, None, True), ("row", 0, 2, True), ("row", None, 2, False),
            ("column", 2, 0, True), ("column", 2, None, False), ("column", 0, 3, True), ("column", None, 3, True),
            ("row", -1, 0, True), ("row", 0, -1, True), ("column", -1, None, True), ("column", None, -1, True),
            ("row", 10 ** 5000, 0, True),
        ):
            self.check_one(condition)

    def test_the_last_places_are_right(self):
        for condition in (
            ("row", 2, 1, False), ("row", 2, None, False), ("row", None, 1, False), ("column", 1, 2, False),
            ("column", 1, None, True), ("column", None, 2, False),
        ):
            for call in calls((condition,)).values():
                call()

    def test_places_of_any_kind(self):
        for at, value in enumerate(any_values()):
            # Of the samples, None, 0 and 1 may stand there; True and False, which equal these, may not.
            if value is None or (type(value) is int and 0 <= value <= 1):
                continue
            with self.subTest(at=at):
                self.check_one(("row", value, 0, True))
                self.check_one(("column", 0, value, False))

    def test_truths_that_are_no_bools(self):
        for truth in (1, 0, None, "True", "yes", [True], (True,), 2):
            self.check_one(("row", 0, 1, truth))
            self.check_one(("column", None, 1, truth))
        for at, truth in enumerate(any_values()):
            if not isinstance(truth, bool):
                with self.subTest(at=at):
                    self.check_one(("row", 0, 1, truth))

    def test_twenty_deep(self):
        for shell in (tuple, list, dict):
            self.check_one((nested(shell, 18), 0, 0, True))
            self.check_one(("row", nested(shell, 18), 0, True))
            self.check_one(("row", 0, nested(shell, 18), True))
            self.check_one(("row", 0, 0, nested(shell, 18)))

    def test_tables_without_rows(self):
        one, other = Table(("a",), ()), Table(("a",), ((1,),))
        for condition in (("row", 0, 0, True), ("row", 0, None, True)):
            with self.assertRaises(BadCondition) as caught:
                least(one, other, Costs(), (condition,))
            self.assertIs(caught.exception.value, condition)
        self.assertEqual(least(one, other, Costs(), (("row", None, 0, True),))[0], 4)
        with self.assertRaises(BadCondition):
            least(other, one, Costs(), (("row", None, 0, True),))

    def test_contradictions_are_conditions(self):
        self.assertIs(keeps(ONE, OTHER, ALIGNMENT, (("row", 0, 0, True), ("row", 0, 1, True))), False)
        with self.assertRaises(NoAlignment):
            least(ONE, OTHER, Costs(), (("row", 0, 0, True), ("row", 0, 1, True)))


class WrongAlignments(unittest.TestCase):
    def check(self, alignment, conditions):
        with self.assertRaises(BadAlignment) as caught:
            keeps(ONE, OTHER, alignment, conditions)
        self.assertIs(type(caught.exception), BadAlignment)
        self.assertIs(caught.exception.value, alignment)

    def test_values_of_any_kind(self):
        for at, value in enumerate(any_values()):
            with self.subTest(at=at):
                self.check(value, ())

    def test_what_is_none(self):
        for value in (((), ((0, 0),)), ([], ()), (((0, 3),), ()), (((True, 0),), ()), (((1, 0), (0, 1)), ())):
            self.assertIs(is_alignment(ONE, OTHER, value), False)
            self.check(value, (GOOD,))

    def test_it_comes_ahead_of_wrong_conditions(self):
        for conditions in (None, [GOOD], (None,), (GOOD,) * 41):
            self.check(None, conditions)
            self.check(((), ((0, 0),)), conditions)


if __name__ == "__main__":
    unittest.main()
