"""Section 2 and the interface, over all that has been built: errors, tables, costs, alignments, leasts, comparisons."""

import copy
import inspect
import unittest

import by_hand
from samples import any_values, nested
from tableheld import alignments, comparing, costs, leasts, tables
from tableheld.alignments import cost_of, is_alignment, keeps
from tableheld.comparing import compare, shows_reason
from tableheld.costs import Costs
from tableheld.errors import BadColumns, BadCondition, BadCost, BadKind, BadRow, BadRows, HeldError, NoPlace
from tableheld.leasts import least, shows_least
from tableheld.tables import Table

ONE, OTHER = Table(("a", "b"), ((1, 2), (3, 4))), Table(("b", "c"), ((2, 1), (5, 3), (5, 3)))
METHODS = {
    "how_many": "(self)",
    "best": "(self)",
    "verdict": "(self, kind, i, j)",
    "partners": "(self, kind, i)",
    "sources": "(self, kind, j)",
    "together": "(self, i, j, c, d)",
    "reason": "(self, kind, i, j)",
    "fewest": "(self, alignment)",
}


def calls(value):
    """Return every call of alignments, leasts and comparisons that accepts any value, each with this one."""
    comparison = compare(ONE, OTHER, Costs())
    alignment = comparison.best()
    return [
        lambda: is_alignment(ONE, OTHER, value),
        lambda: is_alignment(ONE, OTHER, (value, ())),
        lambda: is_alignment(ONE, OTHER, (((0, 0),), value)),
        lambda: cost_of(ONE, OTHER, Costs(), value),
        lambda: keeps(ONE, OTHER, value, ()),
        lambda: keeps(ONE, OTHER, alignment, value),
        lambda: keeps(ONE, OTHER, alignment, (value,)),
        lambda: keeps(ONE, OTHER, alignment, (("row", value, 0, True),)),
        lambda: least(ONE, OTHER, Costs(), value),
        lambda: shows_least(ONE, OTHER, Costs(), value, 0, ()),
        lambda: shows_least(ONE, OTHER, Costs(), (), 0, value),
        lambda: shows_least(ONE, OTHER, Costs(), (), 0, (value,) * 7),
        lambda: compare(ONE, OTHER, Costs(), value),
        lambda: comparison.verdict(value, 0, 0),
        lambda: comparison.verdict("row", value, 0),
        lambda: comparison.verdict("column", 0, value),
        lambda: comparison.partners(value, 0),
        lambda: comparison.partners("row", value),
        lambda: comparison.sources(value, 0),
        lambda: comparison.sources("column", value),
        lambda: comparison.together(value, 0, 0, 0),
        lambda: comparison.together(0, value, 0, 0),
        lambda: comparison.together(0, 0, value, 0),
        lambda: comparison.together(0, 0, 0, value),
        lambda: comparison.reason(value, 0, 0),
        lambda: comparison.reason("row", value, 0),
        lambda: comparison.reason("row", 0, value),
        lambda: shows_reason(comparison, value, 0, 0, ()),
        lambda: shows_reason(comparison, "row", value, 0, ()),
        lambda: shows_reason(comparison, "row", 0, value, ()),
        lambda: shows_reason(comparison, "row", 0, 0, value),
        lambda: shows_reason(comparison, "row", 0, 0, ("sometimes", value, value)),
        lambda: comparison.fewest(value),
    ]


def told(call):
    """Return what a call returns, or the name and the arguments of the error that it raises."""
    try:
        return call()
    except HeldError as error:
        return type(error).__name__, vars(error)


class Interface(unittest.TestCase):
    def test_each_class_is_defined_in_its_file(self):
        self.assertEqual(Table.__module__, "tableheld.tables")
        self.assertEqual(Costs.__module__, "tableheld.costs")
        self.assertIs(tables.Table, Table)
        self.assertIs(costs.Costs, Costs)

    def test_each_class_has_its_methods_itself(self):
        for made in (Table, Costs):
            self.assertIn("__init__", vars(made))
            self.assertIn("__eq__", vars(made))

    def test_parameters_of_table(self):
        self.assertEqual(str(inspect.signature(Table)), "(columns, rows)")

    def test_parameters_of_costs(self):
        self.assertEqual(str(inspect.signature(Costs)), "(*, cell=3, row=4, column=5, name=1, move=1)")

    def test_each_function_is_defined_in_its_file_with_its_parameters(self):
        for module, name, parameters in (
            (alignments, "is_alignment", "(one, other, value)"),
            (alignments, "cost_of", "(one, other, costs, alignment)"),
            (alignments, "keeps", "(one, other, alignment, conditions)"),
            (leasts, "least", "(one, other, costs, conditions=())"),
            (leasts, "shows_least", "(one, other, costs, conditions, cost, value)"),
            (comparing, "compare", "(one, other, costs, conditions=())"),
            (comparing, "shows_reason", "(comparison, kind, i, j, value)"),
        ):
            with self.subTest(name):
                function = getattr(module, name)
                self.assertTrue(inspect.isfunction(function))
                self.assertEqual(function.__module__, module.__name__)
                self.assertEqual(str(inspect.signature(function)), parameters)

    def test_methods_of_a_comparison(self):
        made = type(compare(ONE, OTHER, Costs()))
        for name, parameters in METHODS.items():
            with self.subTest(name):
                self.assertEqual(str(inspect.signature(vars(made)[name])), parameters)

    def test_the_cost_of_a_comparison_is_set_when_it_is_made(self):
        comparison = compare(ONE, OTHER, Costs())
        self.assertEqual(vars(comparison)["cost"], comparison.cost)


class Arguments(unittest.TestCase):
    def test_by_position_or_by_name(self):
        table = Table(("a",), ((1,),))
        self.assertEqual(Table(columns=("a",), rows=((1,),)), table)
        self.assertEqual(Table(rows=((1,),), columns=("a",)), table)
        self.assertEqual(Table(("a",), rows=((1,),)), table)

    def test_errors_are_the_same_by_name(self):
        columns, rows = ["a"], [(1,)]
        with self.assertRaises(BadColumns) as caught:
            Table(rows=rows, columns=columns)
        self.assertIs(caught.exception.value, columns)
        with self.assertRaises(BadRows) as caught:
            Table(rows=rows, columns=("a",))
        self.assertIs(caught.exception.value, rows)

    def test_functions_by_position_or_by_name(self):
        one, other, costs_, conditions = ONE, OTHER, Costs(), (("row", 0, 0, True),)
        cost, alignment, bounds = least(one, other, costs_, conditions)
        tables_ = {"one": one, "other": other}
        self.assertIs(is_alignment(value=alignment, **tables_), True)
        self.assertEqual(cost_of(alignment=alignment, costs=costs_, **tables_), cost)
        self.assertIs(keeps(conditions=conditions, alignment=alignment, **tables_), True)
        self.assertEqual(least(conditions=conditions, costs=costs_, **tables_), (cost, alignment, bounds))
        self.assertEqual(least(one, other, costs_, conditions=()), least(costs=costs_, **tables_))
        self.assertIs(shows_least(value=bounds, cost=cost, conditions=conditions, costs=costs_, **tables_), True)
        self.assertEqual(compare(conditions=conditions, costs=costs_, **tables_).best(), alignment)
        self.assertEqual(compare(costs=costs_, **tables_).cost, compare(one, other, costs_).cost)

    def test_methods_by_position_or_by_name(self):
        comparison = compare(ONE, OTHER, Costs())
        for kind, i, j in by_hand.claims(ONE, OTHER):
            claim = {"j": j, "i": i, "kind": kind}
            self.assertEqual(comparison.verdict(**claim), comparison.verdict(kind, i, j))
            reason = comparison.reason(**claim)
            self.assertEqual(reason, comparison.reason(kind, i, j))
            self.assertIs(shows_reason(value=reason, comparison=comparison, **claim), True)
            if i is not None:
                self.assertEqual(comparison.partners(i=i, kind=kind), comparison.partners(kind, i))
            if j is not None:
                self.assertEqual(comparison.sources(j=j, kind=kind), comparison.sources(kind, j))
        self.assertIs(comparison.together(d=1, c=0, j=0, i=1), comparison.together(1, 0, 0, 1))
        best = comparison.best()
        self.assertEqual(comparison.fewest(alignment=best), comparison.fewest(best))

    def test_errors_of_functions_are_the_same_by_name(self):
        wrong = ["a"]
        comparison = compare(ONE, OTHER, Costs())
        for error, call in (
            (BadCondition, lambda: least(conditions=wrong, costs=Costs(), other=OTHER, one=ONE)),
            (BadCondition, lambda: compare(conditions=wrong, costs=Costs(), other=OTHER, one=ONE)),
            (BadKind, lambda: comparison.verdict(j=wrong, i=wrong, kind=wrong)),
            (NoPlace, lambda: comparison.verdict(j=[9], i=wrong, kind="row")),
            (NoPlace, lambda: comparison.together(d=[9], c=wrong, j=0, i=0)),
        ):
            with self.assertRaises(error) as caught:
                call()
            self.assertIs(caught.exception.value, wrong)

    def test_values_of_functions_stay_unchanged(self):
        for at in range(len(any_values())):
            with self.subTest(at=at):
                value = any_values()[at]
                before = copy.deepcopy(value)
                for call in calls(value):
                    told(call)
                    self.assertEqual(value, before)

    def test_tables_and_costs_stay_unchanged(self):
        before = [dict(vars(thing)) for thing in (ONE, OTHER)]
        costs_ = Costs(cell=2)
        comparison = compare(ONE, OTHER, costs_, (("row", 0, 0, False),))
        for kind, i, j in by_hand.claims(ONE, OTHER):
            shows_reason(comparison, kind, i, j, comparison.reason(kind, i, j))
        comparison.fewest(comparison.best())
        least(ONE, OTHER, costs_)
        self.assertEqual([dict(vars(thing)) for thing in (ONE, OTHER)], before)
        self.assertEqual(costs_, Costs(cell=2))

    def test_those_behind_a_star_by_name_alone(self):
        with self.assertRaises(TypeError):
            Costs(3)

    def test_arguments_stay_unchanged(self):
        for at in range(len(any_values())):
            with self.subTest(at=at):
                value = any_values()[at]
                before = copy.deepcopy(value)
                for call in (
                    lambda: Table(value, ()),
                    lambda: Table((value,), ()),
                    lambda: Table(("a",), value),
                    lambda: Table(("a",), (value,)),
                    lambda: Table(("a",), ((value,),)),
                    lambda: Costs(move=value),
                ):
                    try:
                        call()
                    except HeldError:
                        pass
                    self.assertEqual(value, before)


class AnyValues(unittest.TestCase):
    """Each of them is taken, or one of our own errors is raised; nothing else happens."""

    def test_two_values_of_a_table(self):
        for columns in any_values():
            for rows in any_values():
                try:
                    Table(columns, rows)
                except HeldError:
                    pass

    def test_values_within_a_table(self):
        for at, value in enumerate(any_values()):
            with self.subTest(at=at):
                for columns, rows in (((value,), ()), (("a", value), ()), (("a",), (value,)), (("a",), ((value,),))):
                    try:
                        self.assertEqual(Table(columns, rows).rows, rows)
                    except HeldError:
                        pass

    def test_values_of_functions(self):
        for at, value in enumerate(any_values()):
            with self.subTest(at=at):
                for call in calls(value):
                    told(call)

    def test_values_of_claims(self):
        comparison = compare(ONE, OTHER, Costs())
        for i in any_values():
            for j in any_values():
                for kind in ("row", "column"):
                    told(lambda: comparison.verdict(kind, i, j))
                    told(lambda: keeps(ONE, OTHER, ((), ()), ((kind, i, j, True),)))
                    told(lambda: is_alignment(ONE, OTHER, (((i, j),), ())))

    def test_twenty_deep(self):
        for shell in (tuple, list, dict):
            with self.subTest(shell.__name__):
                value = nested(shell, 20)
                with self.assertRaises(BadColumns) as caught:
                    Table(value, ())
                self.assertIs(caught.exception.value, value)
                with self.assertRaises(BadCost) as caught:
                    Costs(cell=value)
                self.assertIs(caught.exception.value, value)
                inner = nested(shell, 18)
                rows = ((inner,),)
                with self.assertRaises(BadRow) as caught:
                    Table(("a",), rows)
                self.assertIs(caught.exception.value, rows[0])


class Integers(unittest.TestCase):
    def test_bools_are_no_integers(self):
        for value in (True, False):
            with self.assertRaises(BadRow) as caught:
                Table(("a",), ((value,),))
            self.assertIs(caught.exception.value[0], value)
            with self.assertRaises(BadCost) as caught:
                Costs(row=value)
            self.assertIs(caught.exception.value, value)


class Tuples(unittest.TestCase):
    def test_a_list_is_no_tuple(self):
        for error, columns, rows in (
            (BadColumns, ["a"], ((1,),)), (BadRows, ("a",), [(1,)]), (BadRow, ("a",), ([1],)),
        ):
            with self.assertRaises(error):
                Table(columns, rows)

    def test_returned_sequences_are_tuples(self):
        table = Table(("a", "b"), ((1, 2), (3, 4)))
        self.assertIs(type(table.columns), tuple)
        self.assertIs(type(table.rows), tuple)
        self.assertEqual([type(row) for row in table.rows], [tuple, tuple])
        self.assertIs(type(tables.usual_sequence(table.rows)), tuple)

    def check_tuples(self, value):
        """There is no list in what is returned, however deep."""
        self.assertIn(type(value), (tuple, int, str, type(None)))
        if isinstance(value, tuple):
            for member in value:
                self.check_tuples(member)

    def test_what_functions_return_is_built_from_tuples(self):
        for one, other, given, conditions in [case.given for case in by_hand.cases()[::5]]:
            comparison = compare(one, other, given, conditions)
            self.assertEqual(type(least(one, other, given, conditions)), tuple)
            self.check_tuples(least(one, other, given, conditions))
            self.check_tuples(comparison.best())
            self.check_tuples(comparison.fewest(comparison.best()))
            self.assertEqual([type(comparison.best()), type(comparison.fewest(comparison.best()))], [tuple, tuple])
            for kind, i, j in by_hand.claims(one, other):
                self.check_tuples(comparison.reason(kind, i, j))
                if i is not None:
                    self.assertIs(type(comparison.partners(kind, i)), tuple)
                if j is not None:
                    self.assertIs(type(comparison.sources(kind, j)), tuple)

    def test_equal_calls_return_equal_results(self):
        self.assertEqual(Table(("a",), ((1,),)), Table(("a",), ((1,),)))
        self.assertEqual(Costs(cell=2), Costs(cell=2))
        for at in range(len(any_values())):
            for first, second in zip(calls(any_values()[at]), calls(any_values()[at])):
                before, after = told(first), told(second)
                if not hasattr(before, "cost"):
                    self.assertEqual(before, after)

    def test_equal_calls_return_equal_results_whatever_was_asked_before(self):
        for case in by_hand.cases()[::5]:
            claims = by_hand.claims(case.one, case.other)
            one, other = compare(*case.given), compare(*case.given)
            first = [(one.verdict(*claim), one.reason(*claim)) for claim in claims]
            second = [(other.verdict(*claim), other.reason(*claim)) for claim in claims[::-1]][::-1]
            self.assertEqual(first, second)
            self.assertEqual([one.best(), one.how_many()], [other.best(), other.how_many()])
            self.assertEqual(one.fewest(one.best()), other.fewest(other.best()))
            self.assertEqual(least(*case.given), least(*case.given))


if __name__ == "__main__":
    unittest.main()
