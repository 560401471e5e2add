"""Section 10: evidence for verdicts."""

import unittest
from itertools import product

import by_hand
from samples import any_values, nested
from tableheld.comparing import compare, shows_reason
from tableheld.costs import Costs
from tableheld.errors import BadKind, NoPlace
from tableheld.tables import Table

ONE, OTHER = Table(("a",), ((1,), (2,))), Table(("a",), ((2,), (3,)))
OWN = ("always", (((), (0, 0), (0, 0)), (((0, 0),), (3, 3), (0, 0))))
WORDS = ("always", "sometimes", "never")


class Examples(unittest.TestCase):
    def test_own_evidence(self):
        comparison = compare(ONE, OTHER, Costs())
        self.assertEqual(
            [
                shows_reason(comparison, "row", 1, 0, OWN),
                shows_reason(comparison, "row", 1, 0, comparison.reason("row", 1, 0)),
                shows_reason(comparison, "row", 0, 0, OWN),
            ],
            [True, True, False],
        )


def is_evidence(case, claim, value):
    """Tell by hand whether a value of the right form is evidence."""
    word = value[0]
    if word == "sometimes":
        return (
            value[1] in case.best and value[2] in case.best
            and by_hand.is_true(value[1], *claim) and not by_hand.is_true(value[2], *claim)
        )
    conditions = (*case.conditions, (*claim, word == "never"))
    return by_hand.are_bounds(case.one, case.other, case.costs, conditions, case.cost + 1, value[1])


class ByHand(unittest.TestCase):
    def test_the_reason_of_every_claim(self):
        """It is evidence for its verdict, and for no other one."""
        for case in by_hand.cases():
            comparison = compare(*case.given)
            for claim in by_hand.claims(case.one, case.other):
                with self.subTest(str(case), claim=claim):
                    reason = comparison.reason(*claim)
                    self.assertEqual(reason[0], case.verdict(claim))
                    self.assertIs(is_evidence(case, claim, reason), True)
                    self.assertIs(shows_reason(comparison, *claim, reason), True)
                    for word in WORDS:
                        if word != reason[0]:
                            self.assertIs(shows_reason(comparison, *claim, (word, *reason[1:])), False)

    def test_the_reason_of_one_claim_for_another_one(self):
        for case in by_hand.cases()[::4]:
            comparison = compare(*case.given)
            claims = by_hand.claims(case.one, case.other)
            reasons = [comparison.reason(*claim) for claim in claims]
            for claim in claims:
                for reason in reasons:
                    expected = is_evidence(case, claim, reason)
                    self.assertIs(shows_reason(comparison, *claim, reason), expected)
                    if expected:
                        self.assertEqual(reason[0], comparison.verdict(*claim))

    def test_bounds_spoilt_in_one_number(self):
        for case in by_hand.cases()[::6]:
            comparison = compare(*case.given)
            for claim in by_hand.claims(case.one, case.other)[::3]:
                reason = comparison.reason(*claim)
                if reason[0] == "sometimes":
                    continue
                for k, entry in enumerate(reason[1]):
                    for part, change in product((1, 2), (1, -1)):
                        for at, number in enumerate(entry[part]):
                            numbers = (*entry[part][:at], number + change, *entry[part][at + 1:])
                            spoilt = (*entry[:part], numbers, *entry[part + 1:])
                            value = (reason[0], (*reason[1][:k], spoilt, *reason[1][k + 1:]))
                            expected = is_evidence(case, claim, value)
                            self.assertIs(shows_reason(comparison, *claim, value), expected)

    def test_all_pairs_of_examples(self):
        for case in by_hand.cases()[::2]:
            comparison = compare(*case.given)
            for claim in by_hand.claims(case.one, case.other):
                for one, other in product(case.best[:5], repeat=2):
                    expected = by_hand.is_true(one, *claim) and not by_hand.is_true(other, *claim)
                    self.assertIs(shows_reason(comparison, *claim, ("sometimes", one, other)), expected)


class Always(unittest.TestCase):
    def setUp(self):
        self.comparison = compare(ONE, OTHER, Costs())

    def check(self, value, expected=False, claim=("row", 1, 0)):
        self.assertIs(shows_reason(self.comparison, *claim, value), expected)

    def test_the_bounds_are_for_one_more_than_the_cost(self):
        # The columns cost 0 in the second entry; these members show 3 and 4, and the condition lets them.
        for left, right, expected in (
            ((3, 0), (0, 0), False), ((3, 1), (0, 0), True), ((0, 3), (0, 0), False), ((4, 0), (0, 0), False),
            ((3, 3), (0, 0), True), ((3, 4), (0, 0), False), ((3, 3), (0, 1), False), ((-1, 3), (1, 1), False),
            ((-2, 2), (3, 1), True), ((-2, 2), (3, 0), False), ((0, 3), (4, 0), False), ((-1, 3), (4, 0), True),
        ):
            with self.subTest(left=left, right=right):
                self.check(("always", (((), (0, 0), (0, 0)), (((0, 0),), left, right))), expected)

    def test_the_condition_stands_behind_those_of_the_comparison(self):
        # Without the condition of the comparison, rows 0 and 1 are a pair in all; with it, 0 and 0, and 1 and 1 are.
        comparison = compare(ONE, ONE, Costs(), (("row", 0, 0, False),))
        self.assertEqual([comparison.cost, comparison.how_many()], [6, 1])
        for claim in (("row", 0, 1), ("row", 1, 0)):
            reason = comparison.reason(*claim)
            self.assertEqual(reason[0], "always")
            self.assertIs(shows_reason(comparison, *claim, reason), True)
            self.assertIs(shows_reason(compare(ONE, ONE, Costs()), *claim, reason), False)

    def test_it_depends_on_the_costs(self):
        self.check(OWN, True)
        self.assertIs(shows_reason(compare(ONE, OTHER, Costs(row=2)), "row", 1, 0, OWN), False)
        self.assertIs(shows_reason(compare(ONE, OTHER, Costs(cell=2)), "row", 1, 0, OWN), False)

    def test_entries_left_out_twice_or_exchanged(self):
        first, second = OWN[1]
        for bounds in ((), (first,), (second,), (second, first), (first, first), (first, second, second)):
            self.check(("always", bounds))

    def test_a_claim_about_columns_leaves_an_entry_out(self):
        claim = ("column", 0, 0)
        self.check(("always", (((), (0, 0), (0, 0)),)), True, claim)
        self.check(("always", (((), (-3, -3), (0, 0)),)), True, claim)
        self.check(("always", (((), (-3, -3), (-1, 0)),)), False, claim)
        self.check(OWN, False, claim)
        self.check(("always", (OWN[1][1],)), False, claim)
        self.check(("always", ()), False, claim)

    def test_no_entries_where_no_pairing_is_left(self):
        comparison = compare(ONE, OTHER, Costs(), (("column", 0, 0, True),))
        for claim, word in (
            (("column", 0, 0), "always"), (("column", 0, None), "never"), (("column", None, 0), "never"),
        ):
            self.assertEqual(comparison.reason(*claim), (word, ()))
            self.assertIs(shows_reason(comparison, *claim, (word, ())), True)
            for other in WORDS:
                if other != word:
                    self.assertIs(shows_reason(comparison, *claim, (other, ())), False)

    def test_a_bool_for_a_number(self):
        bounds = (((), (0, 0), (0, 0)), (((0, 0),), (3, 1), (0, 0)))
        self.check(("always", bounds), True)
        self.check(("always", (bounds[0], (((0, 0),), (3, True), (0, 0)))))
        self.check(("always", (bounds[0], (((0, 0),), (3, 1), (False, 0)))))
        self.check(("always", (bounds[0], (((0, False),), (3, 1), (0, 0)))))


class Never(unittest.TestCase):
    def setUp(self):
        self.comparison = compare(ONE, OTHER, Costs())

    def check(self, value, expected=False, claim=("row", 0, 0)):
        self.assertIs(shows_reason(self.comparison, *claim, value), expected)

    def test_own_evidence(self):
        # Row 0 must be with row 0, at 3; then row 1 has none that is like it.
        great = (((), (100, 0), (0, 0)), (((0, 0),), (3, 3), (0, 0)))
        self.check(("never", great), True)
        self.check(("never", (((), (0, 0), (0, 0)), (((0, 0),), (3, 3), (0, 0)))), True)
        self.check(("never", (great[0], (((0, 0),), (4, 3), (0, 0)))))
        self.check(("never", (great[0], (((0, 0),), (3, 0), (0, 0)))))
        self.check(("always", great))
        self.check(("never", great), False, ("row", 0, 1))

    def test_where_no_alignment_has_it(self):
        comparison = compare(ONE, OTHER, Costs(), (("row", 0, 1, True),))
        for claim in (("row", 0, 0), ("row", 1, 1), ("row", 0, None), ("row", None, 1)):
            reason = comparison.reason(*claim)
            self.assertEqual(reason[0], "never")
            self.assertIs(shows_reason(comparison, *claim, reason), True)


class Sometimes(unittest.TestCase):
    STRAIGHT = (((0, 0),), ((0, 0), (1, 1)))
    TURNED = (((0, 0),), ((0, 1), (1, 0)))

    def setUp(self):
        self.other = Table(("a",), ((3,), (4,)))
        self.comparison = compare(ONE, self.other, Costs())

    def check(self, value, expected=False, claim=("row", 0, 0)):
        self.assertIs(shows_reason(self.comparison, *claim, value), expected)

    def test_own_evidence(self):
        self.check(("sometimes", self.STRAIGHT, self.TURNED), True)
        self.check(("sometimes", self.TURNED, self.STRAIGHT), True, ("row", 0, 1))
        self.check(("sometimes", self.STRAIGHT, self.TURNED), True, ("row", 1, 1))
        self.assertEqual(self.comparison.reason("row", 0, 0), ("sometimes", self.STRAIGHT, self.TURNED))

    def test_the_wrong_order(self):
        self.check(("sometimes", self.TURNED, self.STRAIGHT))
        self.check(("sometimes", self.STRAIGHT, self.TURNED), False, ("row", 1, 0))

    def test_twice_the_same(self):
        self.check(("sometimes", self.STRAIGHT, self.STRAIGHT))
        self.check(("sometimes", self.TURNED, self.TURNED))

    def test_dearer_ones(self):
        for dear in (((), ()), (((0, 0),), ()), (((0, 0),), ((1, 1),)), (((0, 0),), ((0, 1),))):
            self.check(("sometimes", self.STRAIGHT, dear))
        self.check(("sometimes", (((0, 0),), ((0, 0),)), self.TURNED))

    def test_such_that_do_not_keep_the_conditions(self):
        for conditions in ((("row", 0, 0, True),), (("row", 0, 0, False),)):
            comparison = compare(ONE, self.other, Costs(), conditions)
            self.assertEqual([comparison.cost, comparison.how_many()], [6, 1])
            value = ("sometimes", self.STRAIGHT, self.TURNED)
            self.assertIs(shows_reason(comparison, "row", 0, 0, value), False)

    def test_cheaper_ones_that_do_not_keep_the_conditions(self):
        comparison = compare(ONE, ONE, Costs(cell=4), (("row", 0, 0, False),))
        self.assertEqual(comparison.cost, 8)
        went = (((0, 0),), ((1, 1),))
        self.assertIs(shows_reason(comparison, "row", 0, 1, ("sometimes", self.TURNED, went)), True)
        self.assertIs(shows_reason(comparison, "row", 0, 1, ("sometimes", self.TURNED, self.STRAIGHT)), False)
        self.assertIs(shows_reason(comparison, "row", 1, 1, ("sometimes", went, self.TURNED)), True)
        self.assertIs(shows_reason(comparison, "row", 1, 1, ("sometimes", self.STRAIGHT, self.TURNED)), False)

    def test_what_is_no_alignment(self):
        for value in (
            None, (), ((), ()), (((0, 0),), ((0, 1), (1, False))), (((0, 0),), ((0, True), (1, 0))),
            [((0, 0),), ((0, 1), (1, 0))], (((0, 0),), [(0, 1), (1, 0)]), (((0, 0),), ((1, 0), (0, 1))),
            (((0, 0),), ((0, 1), (1, 2))), ((), ((0, 1), (1, 0))),
        ):
            self.check(("sometimes", self.STRAIGHT, value))
        for value in (None, [((0, 0),), ((0, 0), (1, 1))], (((0, 0),), ((0, 0), (1, True))), (((False, 0),), ())):
            self.check(("sometimes", value, self.TURNED))

    def test_columns(self):
        one, other = Table(("a", "b"), ((1, 2), (2, 1))), Table(("b", "a"), ((1, 2), (2, 1)))
        comparison = compare(one, other, Costs(move=2))
        by_name = (((0, 1), (1, 0)), ((0, 1), (1, 0)))
        by_place = (((0, 0), (1, 1)), ((0, 0), (1, 1)))
        for claim, truth in ((("column", 0, 0), by_place), (("column", 0, 1), by_name), (("row", 1, 1), by_place)):
            against = by_name if truth == by_place else by_place
            self.assertIs(shows_reason(comparison, *claim, ("sometimes", truth, against)), True)
            self.assertIs(shows_reason(comparison, *claim, ("sometimes", against, truth)), False)
            self.assertEqual(comparison.reason(*claim), ("sometimes", truth, against))


class FortyConditions(unittest.TestCase):
    """The claim's own condition does not count among the 40."""

    def test_reasons(self):
        conditions = (("row", 0, 1, True),) * 20 + (("row", None, 1, False),) * 20
        comparison = compare(ONE, OTHER, Costs(), conditions)
        self.assertEqual(comparison.cost, 3)
        for claim in by_hand.claims(ONE, OTHER):
            reason = comparison.reason(*claim)
            self.assertEqual(reason[0], comparison.verdict(*claim))
            self.assertIs(shows_reason(comparison, *claim, reason), True)
        self.assertIs(shows_reason(comparison, "row", 1, 0, OWN), True)
        self.assertEqual({comparison.reason(*claim)[0] for claim in by_hand.claims(ONE, OTHER)}, {"always", "never"})

    def test_examples(self):
        one, other = Table(("a",), ((1,), (2,))), Table(("a",), ((3,), (4,)))
        comparison = compare(one, other, Costs(), (("row", 0, None, False),) * 40)
        reason = comparison.reason("row", 0, 0)
        self.assertEqual(reason[0], "sometimes")
        self.assertIs(shows_reason(comparison, "row", 0, 0, reason), True)


class Wrong(unittest.TestCase):
    def setUp(self):
        self.comparison = compare(ONE, OTHER, Costs())

    def test_values_of_any_kind(self):
        for at, value in enumerate(any_values()):
            with self.subTest(at=at):
                for claim in by_hand.claims(ONE, OTHER):
                    self.assertIs(shows_reason(self.comparison, *claim, value), False)
                    for word in WORDS:
                        self.assertIs(shows_reason(self.comparison, *claim, (word, value)), False)
                        self.assertIs(shows_reason(self.comparison, *claim, (word, value, value)), False)
                    self.assertIs(shows_reason(self.comparison, *claim, (value, OWN[1])), False)

    def test_another_form(self):
        for value in (
            list(OWN), OWN[1], OWN[:1], (*OWN, OWN[1]), (*OWN, ()), ("Always", OWN[1]), ("sometimes", OWN[1]),
            ("sometimes", OWN[1], OWN[1]), ("always", list(OWN[1])), (OWN[1], "always"), ("always",), ("sometimes",),
            ((), OWN[1]), (None, OWN[1]), ("", OWN[1]), (["always"], OWN[1]), (OWN,),
        ):
            self.assertIs(shows_reason(self.comparison, "row", 1, 0, value), False)

    def test_examples_in_another_form(self):
        comparison = compare(ONE, Table(("a",), ((3,), (4,))), Costs())
        reason = comparison.reason("row", 0, 0)
        self.assertIs(shows_reason(comparison, "row", 0, 0, reason), True)
        for value in (
            list(reason), reason[:2], (*reason, reason[2]), (*reason, ()), ("always", *reason[1:]), reason[1:],
            ("sometimes", reason[1:]), ("sometimes", None, reason[2]), ("sometimes", reason[1], None),
        ):
            self.assertIs(shows_reason(comparison, "row", 0, 0, value), False)

    def test_twenty_deep(self):
        for shell in (tuple, list, dict):
            for value in (nested(shell, 20), ("always", nested(shell, 19)), ("sometimes", nested(shell, 19), ())):
                self.assertIs(shows_reason(self.comparison, "row", 1, 0, value), False)

    def check(self, error, value, *claim):
        for evidence in (OWN, None, [], ()):
            with self.assertRaises(error) as caught:
                shows_reason(self.comparison, *claim, evidence)
            self.assertIs(type(caught.exception), error)
            self.assertIs(caught.exception.value, value)

    def test_errors_of_the_claim(self):
        for at, kind in enumerate(any_values()):
            with self.subTest(at=at):
                self.check(BadKind, kind, kind, 0, 0)
                self.check(BadKind, kind, kind, None, None)
                self.check(BadKind, kind, kind, [1], [2])
        for kind in ("row", "column"):
            self.check(NoPlace, None, kind, None, None)
            for at, place in enumerate(any_values() + [2]):
                if place is None or (type(place) is int and place in (0, 1)):
                    continue
                with self.subTest(kind, at=at):
                    self.check(NoPlace, place, kind, place, 0)
                    self.check(NoPlace, place, kind, place, [0])
                    self.check(NoPlace, place, kind, None, place)
                    self.check(NoPlace, place, kind, 0, place)
        self.check(NoPlace, 1, "column", 1, 0)


if __name__ == "__main__":
    unittest.main()
