"""Section 2 and the interface, over all that has been built: errors, tables, costs."""

import copy
import inspect
import unittest

from samples import any_values, nested
from tableheld import costs, tables
from tableheld.costs import Costs
from tableheld.errors import BadColumns, BadCost, BadRow, BadRows, HeldError
from tableheld.tables import Table


class Interface(unittest.TestCase):
    def test_each_class_is_defined_in_its_file(self):
        self.assertEqual(Table.__module__, "tableheld.tables")
        self.assertEqual(Costs.__module__, "tableheld.costs")
        self.assertIs(tables.Table, Table)
        self.assertIs(costs.Costs, Costs)

    def test_each_class_has_its_methods_itself(self):
        for made in (Table, Costs):
            self.assertIn("__init__", vars(made))
            self.assertIn("__eq__", vars(made))

    def test_parameters_of_table(self):
        self.assertEqual(str(inspect.signature(Table)), "(columns, rows)")

    def test_parameters_of_costs(self):
        self.assertEqual(str(inspect.signature(Costs)), "(*, cell=3, row=4, column=5, name=1, move=1)")


class Arguments(unittest.TestCase):
    def test_by_position_or_by_name(self):
        table = Table(("a",), ((1,),))
        self.assertEqual(Table(columns=("a",), rows=((1,),)), table)
        self.assertEqual(Table(rows=((1,),), columns=("a",)), table)
        self.assertEqual(Table(("a",), rows=((1,),)), table)

    def test_errors_are_the_same_by_name(self):
        columns, rows = ["a"], [(1,)]
        with self.assertRaises(BadColumns) as caught:
            Table(rows=rows, columns=columns)
        self.assertIs(caught.exception.value, columns)
        with self.assertRaises(BadRows) as caught:
            Table(rows=rows, columns=("a",))
        self.assertIs(caught.exception.value, rows)

    def test_those_behind_a_star_by_name_alone(self):
        with self.assertRaises(TypeError):
            Costs(3)

    def test_arguments_stay_unchanged(self):
        for at in range(len(any_values())):
            with self.subTest(at=at):
                value = any_values()[at]
                before = copy.deepcopy(value)
                for call in (
                    lambda: Table(value, ()),
                    lambda: Table((value,), ()),
                    lambda: Table(("a",), value),
                    lambda: Table(("a",), (value,)),
                    lambda: Table(("a",), ((value,),)),
                    lambda: Costs(move=value),
                ):
                    try:
                        call()
                    except HeldError:
                        pass
                    self.assertEqual(value, before)


class AnyValues(unittest.TestCase):
    """Each of them is taken, or one of our own errors is raised; nothing else happens."""

    def test_two_values_of_a_table(self):
        for columns in any_values():
            for rows in any_values():
                try:
                    Table(columns, rows)
                except HeldError:
                    pass

    def test_values_within_a_table(self):
        for at, value in enumerate(any_values()):
            with self.subTest(at=at):
                for columns, rows in (((value,), ()), (("a", value), ()), (("a",), (value,)), (("a",), ((value,),))):
                    try:
                        self.assertEqual(Table(columns, rows).rows, rows)
                    except HeldError:
                        pass

    def test_twenty_deep(self):
        for shell in (tuple, list, dict):
            with self.subTest(shell.__name__):
                value = nested(shell, 20)
                with self.assertRaises(BadColumns) as caught:
                    Table(value, ())
                self.assertIs(caught.exception.value, value)
                with self.assertRaises(BadCost) as caught:
                    Costs(cell=value)
                self.assertIs(caught.exception.value, value)
                inner = nested(shell, 18)
                rows = ((inner,),)
                with self.assertRaises(BadRow) as caught:
                    Table(("a",), rows)
                self.assertIs(caught.exception.value, rows[0])


class Integers(unittest.TestCase):
    def test_bools_are_no_integers(self):
        for value in (True, False):
            with self.assertRaises(BadRow) as caught:
                Table(("a",), ((value,),))
            self.assertIs(caught.exception.value[0], value)
            with self.assertRaises(BadCost) as caught:
                Costs(row=value)
            self.assertIs(caught.exception.value, value)


class Tuples(unittest.TestCase):
    def test_a_list_is_no_tuple(self):
        for error, columns, rows in (
            (BadColumns, ["a"], ((1,),)), (BadRows, ("a",), [(1,)]), (BadRow, ("a",), ([1],)),
        ):
            with self.assertRaises(error):
                Table(columns, rows)

    def test_returned_sequences_are_tuples(self):
        table = Table(("a", "b"), ((1, 2), (3, 4)))
        self.assertIs(type(table.columns), tuple)
        self.assertIs(type(table.rows), tuple)
        self.assertEqual([type(row) for row in table.rows], [tuple, tuple])
        self.assertIs(type(tables.usual_sequence(table.rows)), tuple)

    def test_equal_calls_return_equal_results(self):
        self.assertEqual(Table(("a",), ((1,),)), Table(("a",), ((1,),)))
        self.assertEqual(Costs(cell=2), Costs(cell=2))


if __name__ == "__main__":
    unittest.main()
