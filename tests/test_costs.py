"""Section 5: costs, their bounds, their error and their equality."""

import unittest
from itertools import product

from samples import any_values
from tableheld.costs import Costs
from tableheld.errors import BadCost

USUAL = {"cell": 3, "row": 4, "column": 5, "name": 1, "move": 1}
NAMES = tuple(USUAL)


def told(costs):
    return {name: getattr(costs, name) for name in NAMES}


class Right(unittest.TestCase):
    def test_the_usual_costs(self):
        self.assertEqual(told(Costs()), USUAL)

    def test_bounds_of_each_cost(self):
        for name, cost in product(NAMES, (1, 2, 49, 50)):
            with self.subTest(name, cost=cost):
                self.assertEqual(told(Costs(**{name: cost})), {**USUAL, name: cost})

    def test_all_costs_given(self):
        given = {"cell": 11, "row": 12, "column": 13, "name": 14, "move": 15}
        self.assertEqual(told(Costs(**given)), given)
        self.assertEqual(told(Costs(move=15, name=14, column=13, row=12, cell=11)), given)

    def test_some_left_out(self):
        self.assertEqual(told(Costs(row=7, move=9)), {"cell": 3, "row": 7, "column": 5, "name": 1, "move": 9})

    def test_attributes_are_set_when_they_are_made(self):
        self.assertEqual(vars(Costs(name=8)), {**USUAL, "name": 8})


class Wrong(unittest.TestCase):
    def check(self, value, **given):
        with self.assertRaises(BadCost) as caught:
            Costs(**given)
        self.assertIs(caught.exception.value, value)

    def test_each_cost_out_of_its_bounds(self):
        for name, value in product(NAMES, (0, 51, -1, 1000, -10 ** 5000, 10 ** 5000)):
            with self.subTest(name):
                self.check(value, **{name: value})

    def test_each_cost_of_another_kind(self):
        for name in NAMES:
            for at, value in enumerate([True, False, None, "3", "a", (), (3,), [3], {3: 3}, *any_values()]):
                # Of the samples, only 1 is a cost (True, which equals it, is none).
                if value != 1 or value is True:
                    with self.subTest(name, at=at):
                        self.check(value, **{name: value})

    def test_of_several_wrong_ones_the_first_in_the_sequence_of_the_document(self):
        wrong = {name: [name] for name in NAMES}
        for at, name in enumerate(NAMES):
            given = {later: wrong[later] for later in NAMES[at:]}
            self.check(wrong[name], **given)
            self.check(wrong[name], **dict(reversed(list(given.items()))))

    def test_two_wrong_ones(self):
        self.check(0, cell=1, row=0, column=2, name=3, move=51)
        self.check(51, move=True, column=51)

    def test_no_argument_by_position(self):
        for given in ((3,), (3, 4, 5, 1, 1), (None,)):
            with self.assertRaises(TypeError):
                Costs(*given)

    def test_no_other_name(self):
        with self.assertRaises(TypeError):
            Costs(cells=3)


class Equality(unittest.TestCase):
    def check_unlike(self, one, other):
        self.assertIs(one == other, False)
        self.assertIs(other == one, False)
        self.assertIs(one != other, True)

    def test_costs_made_apart_from_the_same_are_equal(self):
        self.assertIs(Costs() == Costs(), True)
        self.assertIs(Costs() != Costs(), False)
        self.assertIs(Costs() == Costs(cell=3, row=4, column=5, name=1, move=1), True)
        self.assertIs(Costs(row=50, name=2) == Costs(name=2, row=50), True)

    def test_one_cost_otherwise(self):
        for name in NAMES:
            with self.subTest(name):
                self.check_unlike(Costs(), Costs(**{name: 20}))
                self.check_unlike(Costs(**{name: 21}), Costs(**{name: 20}))

    def test_the_same_numbers_for_other_costs(self):
        self.check_unlike(Costs(cell=4, row=3), Costs(cell=3, row=4))
        self.check_unlike(Costs(name=2), Costs(move=2))

    def test_costs_equal_nothing_else(self):
        costs = Costs()
        for at, value in enumerate(any_values()):
            with self.subTest(at=at):
                self.check_unlike(costs, value)
        for value in ((3, 4, 5, 1, 1), [3, 4, 5, 1, 1], USUAL, vars(costs), (costs,), Costs):
            self.check_unlike(costs, value)


if __name__ == "__main__":
    unittest.main()
