"""Section 9: comparisons, and what all best alignments say together."""

import unittest
from itertools import product

import by_hand
from samples import any_values, nested
from tableheld.alignments import cost_of, keeps
from tableheld.comparing import compare
from tableheld.costs import Costs
from tableheld.errors import BadCondition, BadKind, NoAlignment, NoPlace
from tableheld.leasts import least
from tableheld.tables import Table

EXCHANGED = (Table(("a", "b"), ((1, 2), (2, 1))), Table(("b", "a"), ((1, 2), (2, 1))))


class Examples(unittest.TestCase):
    def test_free_and_bound(self):
        one, other = Table(("a",), ((1,), (2,))), Table(("a",), ((3,), (4,)))
        free, bound = compare(one, other, Costs()), compare(one, other, Costs(), (("row", 0, 0, False),))
        self.assertEqual(
            [
                free.cost, free.how_many(), free.verdict("row", 0, 0), free.verdict("row", 0, None),
                free.partners("row", 1), bound.how_many(), bound.best(),
            ],
            [6, 2, "sometimes", "never", (0, 1), 1, (((0, 0),), ((0, 1), (1, 0)))],
        )

    def test_twice(self):
        twice = compare(*EXCHANGED, Costs(move=2))
        self.assertEqual(
            [
                twice.cost, twice.how_many(), twice.verdict("row", 0, 0), twice.verdict("column", 0, 0),
                twice.together(0, 0, 0, 0), twice.together(0, 0, 0, 1),
            ],
            [2, 2, "sometimes", "sometimes", True, False],
        )


class ByHand(unittest.TestCase):
    """Beside all best alignments of small tables."""

    def check_cases(self, check):
        for case in by_hand.cases():
            with self.subTest(str(case)):
                check(case, compare(*case.given))

    def test_cost_and_how_many(self):
        def check(case, comparison):
            self.assertEqual(comparison.cost, case.cost)
            self.assertEqual(comparison.how_many(), len(case.best))
            self.assertEqual([type(comparison.cost), type(comparison.how_many())], [int, int])

        self.check_cases(check)

    def test_best(self):
        def check(case, comparison):
            best = comparison.best()
            self.assertIn(best, case.best)
            self.assertEqual(cost_of(case.one, case.other, case.costs, best), comparison.cost)
            self.assertIs(keeps(case.one, case.other, best, case.conditions), True)
            self.assertEqual(comparison.best(), best)

        self.check_cases(check)

    def test_verdicts_of_all_claims(self):
        def check(case, comparison):
            for claim in by_hand.claims(case.one, case.other):
                self.assertEqual(comparison.verdict(*claim), case.verdict(claim), claim)

        self.check_cases(check)

    def test_partners(self):
        def check(case, comparison):
            for kind, i, _ in [claim for claim in by_hand.claims(case.one, case.other) if claim[2] is None]:
                found = {by_hand.answer(best, (kind, i)) for best in case.best}
                expected = tuple(sorted(found - {None})) + ((None,) if None in found else ())
                self.assertEqual(comparison.partners(kind, i), expected, (kind, i))

        self.check_cases(check)

    def test_sources(self):
        def check(case, comparison):
            turned = [
                tuple([tuple(sorted([(j, i) for i, j in pairs])) for pairs in best]) for best in case.best
            ]
            for kind, _, j in [claim for claim in by_hand.claims(case.one, case.other) if claim[1] is None]:
                found = {by_hand.answer(best, (kind, j)) for best in turned}
                expected = tuple(sorted(found - {None})) + ((None,) if None in found else ())
                self.assertEqual(comparison.sources(kind, j), expected, (kind, j))

        self.check_cases(check)

    def test_together(self):
        def check(case, comparison):
            for i, j, c, d in product(
                range(len(case.one.rows)), range(len(case.other.rows)),
                range(len(case.one.columns)), range(len(case.other.columns)),
            ):
                expected = any((c, d) in columns and (i, j) in rows for columns, rows in case.best)
                self.assertIs(comparison.together(i, j, c, d), expected, (i, j, c, d))

        self.check_cases(check)

    def test_the_cases_have_each_verdict_of_each_kind_of_claim(self):
        found = set()
        for case in by_hand.cases():
            for kind, i, j in by_hand.claims(case.one, case.other):
                found.add((kind, i is None, j is None, case.verdict((kind, i, j))))
        self.assertEqual(len(found), 2 * 3 * 3)

    def test_no_alignment(self):
        for case in by_hand.hopeless_cases():
            with self.subTest(str(case)):
                with self.assertRaises(NoAlignment) as caught:
                    compare(*case.given)
                self.assertEqual(vars(caught.exception), {})


class Best(unittest.TestCase):
    def test_without_rows(self):
        comparison = compare(Table(("a",), ()), Table(("a",), ()), Costs())
        self.assertEqual([comparison.cost, comparison.how_many(), comparison.best()], [0, 1, (((0, 0),), ())])
        self.assertEqual([comparison.partners("column", 0), comparison.sources("column", 0)], [(0,), (0,)])

    def test_without_rows_on_one_side(self):
        one, other = Table(("a",), ((1,), (1,))), Table(("a",), ())
        comparison = compare(one, other, Costs())
        self.assertEqual([comparison.cost, comparison.how_many(), comparison.partners("row", 1)], [8, 1, (None,)])
        comparison = compare(other, one, Costs())
        self.assertEqual([comparison.cost, comparison.how_many(), comparison.sources("row", 1)], [8, 1, (None,)])

    def test_columns_alone_are_one_best_alignment(self):
        costs = Costs(cell=50, row=1, column=1, name=50)
        comparison = compare(Table(("a",), ((1,), (2,))), Table(("b",), ((1,), (2,))), costs)
        self.assertEqual([comparison.cost, comparison.how_many(), comparison.best()], [6, 1, ((), ())])
        self.assertEqual([comparison.partners("column", 0), comparison.sources("row", 0)], [(None,), (None,)])
        self.assertIs(comparison.together(0, 0, 0, 0), False)

    def test_columns_go_by_name_or_by_place(self):
        for move, names, places in ((1, "always", "never"), (2, "sometimes", "sometimes"), (3, "never", "always")):
            comparison = compare(*EXCHANGED, Costs(move=move))
            self.assertEqual(comparison.cost, min(move, 2))
            self.assertEqual(comparison.how_many(), 2 if move == 2 else 1)
            for claims, verdict in (
                ((("column", 0, 1), ("column", 1, 0), ("row", 0, 1), ("row", 1, 0)), names),
                ((("column", 0, 0), ("column", 1, 1), ("row", 0, 0), ("row", 1, 1)), places),
            ):
                for claim in claims:
                    self.assertEqual(comparison.verdict(*claim), verdict)

    def test_together_is_more_than_each_alone(self):
        comparison = compare(*EXCHANGED, Costs(move=2))
        for i, j, c, d in product((0, 1), repeat=4):
            self.assertIs(comparison.together(i, j, c, d), (i == j) == (c == d))
            self.assertEqual(comparison.verdict("row", i, j), "sometimes")
            self.assertEqual(comparison.verdict("column", c, d), "sometimes")

    def test_equal_rows(self):
        for many, other_many, number in ((2, 2, 2), (3, 3, 6), (6, 6, 720), (6, 4, 360), (1, 6, 6), (6, 0, 1)):
            one, other = Table(("a",), ((1,),) * many), Table(("a",), ((1,),) * other_many)
            comparison = compare(one, other, Costs())
            self.assertEqual(comparison.how_many(), number)
            self.assertEqual(comparison.cost, 4 * (many - other_many if many > other_many else other_many - many))
            places = tuple(range(other_many))
            self.assertEqual(comparison.partners("row", 0), places + ((None,) if many > other_many else ()))
            for j in places:
                expected = tuple(range(many)) + ((None,) if many < other_many else ())
                self.assertEqual(comparison.sources("row", j), expected)

    def test_one_of_two_equal_rows_stays(self):
        comparison = compare(Table(("a",), ((1,), (1,), (7,))), Table(("a",), ((1,), (7,))), Costs())
        self.assertEqual([comparison.cost, comparison.how_many()], [4, 2])
        self.assertEqual([comparison.partners("row", i) for i in range(3)], [(0, None), (0, None), (1,)])
        self.assertEqual([comparison.sources("row", j) for j in range(2)], [(0, 1), (2,)])

    def test_as_many_as_there_can_be(self):
        # Going and coming cost as much as two unlike cells, so every pairing of the rows is a best one.
        one, other = Table(("a",), ((1,),) * 6), Table(("a",), ((2,),) * 6)
        comparison = compare(one, other, Costs(cell=8))
        self.assertEqual([comparison.cost, comparison.how_many()], [48, len(by_hand.pairings(6, 6))])
        self.assertEqual(comparison.partners("row", 5), (0, 1, 2, 3, 4, 5, None))
        self.assertEqual(comparison.sources("row", 5), (0, 1, 2, 3, 4, 5, None))

    def test_three_columns_and_six_rows(self):
        one = Table(("a", "b", "c"), tuple([(k, k % 2, "x") for k in range(6)]))
        other = Table(("b", "c", "d"), tuple([(k % 3, "x", 6 - k) for k in range(6)]))
        for costs in (Costs(cell=1, row=1, column=1), Costs(cell=8, row=12)):
            cost, best = by_hand.best_of_great(one, other, costs)
            comparison = compare(one, other, costs)
            self.assertGreater(len(best), 1)
            self.assertEqual([comparison.cost, comparison.how_many()], [cost, len(best)])
            for claim in by_hand.claims(one, other):
                number = sum(1 for found in best if by_hand.is_true(found, *claim))
                verdict = "never" if number == 0 else "always" if number == len(best) else "sometimes"
                self.assertEqual(comparison.verdict(*claim), verdict)

    def test_conditions_choose_among_dearer_ones(self):
        one, other = Table(("a",), ((1,), (2,))), Table(("a",), ((1,), (2,)))
        comparison = compare(one, other, Costs(), (("row", 0, 0, False),))
        self.assertEqual([comparison.cost, comparison.how_many()], [6, 1])
        self.assertEqual(comparison.best(), (((0, 0),), ((0, 1), (1, 0))))
        self.assertEqual(comparison.verdict("row", 0, 0), "never")
        comparison = compare(one, other, Costs(cell=4), (("row", 0, 0, False),))
        self.assertEqual([comparison.cost, comparison.how_many()], [8, 2])
        self.assertEqual(comparison.verdict("row", 1, 1), "sometimes")
        self.assertEqual(comparison.verdict("row", 0, None), "sometimes")

    def test_forty_conditions(self):
        one, other = Table(("a",), ((1,), (2,))), Table(("a",), ((3,), (4,)))
        comparison = compare(one, other, Costs(), (("row", 0, 0, False),) * 40)
        self.assertEqual([comparison.how_many(), comparison.best()], [1, (((0, 0),), ((0, 1), (1, 0)))])


class Guarantees(unittest.TestCase):
    """What is told is what no best alignment denies, and costs no more than least tells."""

    def test_verdicts_partners_and_sources_say_the_same(self):
        for case in by_hand.cases()[::3]:
            comparison = compare(*case.given)
            for kind, i, j in by_hand.claims(case.one, case.other):
                told = comparison.verdict(kind, i, j) != "never"
                if i is not None:
                    self.assertIs(j in comparison.partners(kind, i), told)
                if j is not None:
                    self.assertIs(i in comparison.sources(kind, j), told)

    def test_the_cost_is_that_of_least(self):
        for case in by_hand.cases()[::3]:
            self.assertEqual(compare(*case.given).cost, least(*case.given)[0])

    def test_all_that_is_always_so_is_so_with_one_more_condition(self):
        for case in by_hand.cases()[::10]:
            comparison = compare(*case.given)
            for claim in by_hand.claims(case.one, case.other):
                if comparison.verdict(*claim) == "sometimes":
                    for truth, verdict in ((True, "always"), (False, "never")):
                        closer = compare(case.one, case.other, case.costs, (*case.conditions, (*claim, truth)))
                        self.assertEqual(closer.cost, comparison.cost)
                        self.assertLess(closer.how_many(), comparison.how_many())
                        self.assertEqual(closer.verdict(*claim), verdict)


class Errors(unittest.TestCase):
    def setUp(self):
        self.comparison = compare(
            Table(("a", "b"), ((1, 2), (3, 4), (5, 6))), Table(("b", "c", "d"), ((1, 2, 3),)), Costs(),
        )

    def check(self, error, value, call, *given):
        with self.assertRaises(error) as caught:
            call(*given)
        self.assertIs(type(caught.exception), error)
        self.assertIs(caught.exception.value, value)

    def test_conditions(self):
        one, other = Table(("a",), ((1,),)), Table(("a",), ((1,),))
        wrong = ("row", 1, 0, True)
        self.check(BadCondition, wrong, compare, one, other, Costs(), (("row", 0, 0, True), wrong))
        hopeless = (("row", 0, 0, True), ("row", 0, 0, False))
        self.check(BadCondition, wrong, compare, one, other, Costs(), (*hopeless, wrong))

    def test_kinds(self):
        for at, kind in enumerate([*any_values(), "rows", "Row", "cell", ["row"], ("row",), "column "]):
            with self.subTest(at=at):
                for call in (self.comparison.verdict, self.comparison.reason):
                    self.check(BadKind, kind, call, kind, 0, 0)
                    self.check(BadKind, kind, call, kind, None, None)
                    self.check(BadKind, kind, call, kind, [9], [9])
                for call in (self.comparison.partners, self.comparison.sources):
                    self.check(BadKind, kind, call, kind, 0)
                    self.check(BadKind, kind, call, kind, 99)

    def wrong_places(self, many):
        """Return values that are neither None nor one of so many places."""
        return [many, many + 1, *[
            value for value in any_values()
            if value is not None and not (type(value) is int and 0 <= value < many)
        ]]

    def test_places_of_claims(self):
        for call in (self.comparison.verdict, self.comparison.reason):
            for kind, many, many_other in (("column", 2, 3), ("row", 3, 1)):
                for at, value in enumerate(self.wrong_places(many)):
                    with self.subTest(kind, at=at):
                        for j in (0, None, [99], many_other):
                            self.check(NoPlace, value, call, kind, value, j)
                for at, value in enumerate(self.wrong_places(many_other)):
                    with self.subTest(kind, at=at):
                        for i in (0, None, many - 1):
                            self.check(NoPlace, value, call, kind, i, value)

    def test_both_places_none(self):
        for call in (self.comparison.verdict, self.comparison.reason):
            for kind in ("row", "column"):
                self.check(NoPlace, None, call, kind, None, None)

    def test_the_last_places_are_right(self):
        for kind, i, j in (("column", 1, 2), ("row", 2, 0), ("column", None, 2), ("row", None, 0), ("row", 2, None)):
            self.assertIn(self.comparison.verdict(kind, i, j), ("always", "sometimes", "never"))

    def test_places_of_partners_and_sources(self):
        for call, kind, many in (
            (self.comparison.partners, "column", 2), (self.comparison.partners, "row", 3),
            (self.comparison.sources, "column", 3), (self.comparison.sources, "row", 1),
        ):
            self.assertIs(type(call(kind, many - 1)), tuple)
            for at, value in enumerate([None, *self.wrong_places(many)]):
                with self.subTest(kind, at=at):
                    self.check(NoPlace, value, call, kind, value)

    def test_places_of_together(self):
        together = self.comparison.together
        places = (2, 0, 1, 2)
        self.assertIn(together(*places), (True, False))
        for at, many in enumerate((3, 1, 2, 3)):
            for number, value in enumerate([None, *self.wrong_places(many)]):
                with self.subTest(at=at, number=number):
                    self.check(NoPlace, value, together, *places[:at], value, *places[at + 1:])
                    # Of several wrong ones, the first is told.
                    self.check(NoPlace, value, together, *places[:at], value, *[[k] for k in range(3 - at)])

    def test_twenty_deep(self):
        for shell in (tuple, list, dict):
            value = nested(shell, 20)
            self.check(BadKind, value, self.comparison.verdict, value, 0, 0)
            self.check(NoPlace, value, self.comparison.verdict, "row", value, 0)
            self.check(NoPlace, value, self.comparison.partners, "row", value)
            self.check(NoPlace, value, self.comparison.sources, "row", value)
            self.check(NoPlace, value, self.comparison.together, 0, 0, 0, value)

    def test_an_error_changes_nothing(self):
        before = [self.comparison.best(), self.comparison.how_many(), self.comparison.partners("row", 0)]
        self.check(NoPlace, 7, self.comparison.verdict, "row", 0, 7)
        self.check(BadKind, 7, self.comparison.partners, 7, 0)
        after = [self.comparison.best(), self.comparison.how_many(), self.comparison.partners("row", 0)]
        self.assertEqual(after, before)


if __name__ == "__main__":
    unittest.main()
