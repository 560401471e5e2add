"""Section 8: the least cost, and bounds that show it."""

import unittest
from itertools import product

import by_hand
from samples import any_values, nested
from tableheld.alignments import cost_of, is_alignment, keeps
from tableheld.costs import Costs
from tableheld.errors import BadCondition, NoAlignment
from tableheld.leasts import least, shows_least
from tableheld.tables import Table

ONE, OTHER = Table(("a",), ((1,), (2,))), Table(("a",), ((2,), (3,)))
OWN = (((), (0, 0), (0, 0)), (((0, 0),), (3, 0), (0, 0)))
GREAT_ONE = Table(("a", "b", "c"), tuple([(k, k % 2, "x") for k in range(6)]))
GREAT_OTHER = Table(("b", "c", "d"), tuple([(k % 3, "x", 5 - k) for k in range(6)]))


def put(value, at, member):
    """Return a tuple with another member at a place; the place is a tuple of places, from the outside on."""
    if not at:
        return member
    return (*value[:at[0]], put(value[at[0]], at[1:], member), *value[at[0] + 1:])


class Examples(unittest.TestCase):
    def test_least(self):
        cost, alignment, bounds = least(ONE, OTHER, Costs())
        self.assertEqual(
            [
                cost, alignment, shows_least(ONE, OTHER, Costs(), (), 3, bounds),
                shows_least(ONE, OTHER, Costs(), (), 3, OWN), shows_least(ONE, OTHER, Costs(), (), 4, OWN),
            ],
            [3, (((0, 0),), ((0, 1), (1, 0))), True, True, False],
        )

    def test_no_alignment(self):
        with self.assertRaises(NoAlignment):
            least(ONE, OTHER, Costs(), (("row", 0, 0, True), ("row", 1, 0, True)))


class ByHand(unittest.TestCase):
    """Beside all alignments of small tables."""

    def test_least_cost(self):
        for case in by_hand.cases():
            with self.subTest(str(case)):
                cost, alignment, bounds = least(*case.given)
                self.assertEqual(cost, case.cost)
                self.assertEqual(type(cost), int)
                self.assertIn(alignment, case.best)
                self.assertIs(is_alignment(case.one, case.other, alignment), True)
                self.assertEqual(cost_of(case.one, case.other, case.costs, alignment), cost)
                self.assertIs(keeps(case.one, case.other, alignment, case.conditions), True)

    def test_bounds(self):
        for case in by_hand.cases():
            with self.subTest(str(case)):
                bounds = least(*case.given)[2]
                self.assertIs(by_hand.are_bounds(*case.given, case.cost, bounds), True)
                self.assertIs(shows_least(*case.given, case.cost, bounds), True)
                self.assertIs(shows_least(*case.given, case.cost - 1, bounds), True)
                self.assertIs(shows_least(*case.given, case.cost + 1, bounds), False)
                self.assertIs(shows_least(*case.given, -1, bounds), True)
                self.assertIs(shows_least(*case.given, 10 ** 6, bounds), False)

    def test_no_alignment(self):
        self.assertGreater(len(by_hand.hopeless_cases()), 10)
        for case in by_hand.hopeless_cases():
            with self.subTest(str(case)):
                with self.assertRaises(NoAlignment):
                    least(*case.given)

    def test_each_number_one_up_and_one_down(self):
        """Whether what is left still is bounds for the cost is told by the words of the document."""
        for case in by_hand.cases()[::2]:
            bounds = least(*case.given)[2]
            spoilt = 0
            for k, entry in enumerate(bounds):
                for part, change in product((1, 2), (1, -1)):
                    for at, number in enumerate(entry[part]):
                        value = put(bounds, (k, part, at), number + change)
                        expected = by_hand.are_bounds(*case.given, case.cost, value)
                        self.assertIs(shows_least(*case.given, case.cost, value), expected)
                        spoilt += not expected
            if case.one.rows or case.other.rows:
                self.assertGreater(spoilt, 0)

    def test_without_conditions_they_may_be_left_out(self):
        for case in by_hand.cases():
            if case.conditions == ():
                self.assertEqual(least(case.one, case.other, case.costs), least(*case.given))


class Least(unittest.TestCase):
    def check(self, cost, one, other, costs=Costs(), conditions=()):
        told, alignment, bounds = least(one, other, costs, conditions)
        self.assertEqual(told, cost)
        self.assertEqual(cost_of(one, other, costs, alignment), cost)
        self.assertIs(keeps(one, other, alignment, conditions), True)
        self.assertIs(shows_least(one, other, costs, conditions, cost, bounds), True)
        self.assertIs(shows_least(one, other, costs, conditions, cost + 1, bounds), False)

    def test_equal_tables_cost_nothing(self):
        for one in (ONE, GREAT_ONE, Table(("a",), ()), Table(("a", "b"), ((1, 1),) * 6)):
            self.check(0, one, one)

    def test_nothing_but_one_column_each(self):
        self.check(1, Table(("a",), ()), Table(("b",), ()))
        self.check(10, Table(("a",), ()), Table(("b",), ()), Costs(name=50))
        self.check(2, Table(("a",), ()), Table(("b",), ()), Costs(name=50, column=1))

    def test_columns_went_and_came(self):
        self.check(10, Table(("a",), ()), Table(("a", "b", "c"), ()))
        self.check(10, Table(("a", "b", "c"), ()), Table(("c",), ()))

    def test_rows_went_and_came(self):
        self.check(24, Table(("a",), ((1,),) * 6), Table(("a",), ()))
        self.check(24, Table(("a",), ()), Table(("a",), ((1,),) * 6))

    def test_no_columns_are_paired_where_that_is_cheaper(self):
        costs = Costs(cell=50, row=1, column=1, name=50)
        one, other = Table(("a",), ((1,), (2,))), Table(("b",), ((1,), (2,)))
        self.check(6, one, other, costs)
        self.assertEqual(least(one, other, costs)[1], ((), ()))

    def test_a_column_that_went_takes_all_rows_with_it(self):
        self.check(10 + 16, ONE, OTHER, Costs(), (("column", 0, None, True),))
        self.assertEqual(least(ONE, OTHER, Costs(), (("column", 0, None, True),))[1], ((), ()))

    def test_rows_that_must_be_pairs_need_a_column(self):
        costs = Costs(cell=50, row=1, column=1, name=50)
        one, other = Table(("a",), ((1,), (2,))), Table(("b",), ((3,), (4,)))
        self.check(6, one, other, costs)
        self.check(50 + 50 + 2, one, other, costs, (("row", 0, 0, True),))
        self.check(50 + 100, one, other, costs, (("row", 0, None, False), ("row", None, 1, False), ("row", 0, 0, True)))

    def test_each_kind_of_condition(self):
        for cost, conditions in (
            (3, ()),
            (3, (("row", 1, 0, True),)),
            (6, (("row", 1, 0, False),)),
            (6, (("row", 0, 0, True),)),
            (8, (("row", 0, None, True),)),
            (3, (("row", 0, None, False),)),
            (11, (("row", 1, None, True),)),
            (8, (("row", None, 1, True),)),
            (11, (("row", None, 0, True),)),
            (3, (("row", None, 0, False), ("row", None, 1, False), ("row", 0, None, False))),
            (6, (("row", 0, 1, False),)),
            (11, (("row", 0, 1, False), ("row", 1, 0, False), ("row", 0, 0, False))),
            (16, (("row", 0, None, True), ("row", 1, None, True))),
            (3, (("column", 0, 0, True),)),
            (26, (("column", 0, 0, False),)),
            (26, (("column", None, 0, True),)),
            (3, (("column", None, 0, False), ("column", 0, None, False))),
        ):
            with self.subTest(conditions):
                self.assertEqual(by_hand.best(ONE, OTHER, Costs(), conditions)[0], cost)
                self.check(cost, ONE, OTHER, Costs(), conditions)

    def test_conditions_in_any_sequence_and_twice(self):
        conditions = (("row", 0, 1, False), ("column", 0, 0, True), ("row", 1, None, False))
        for sequence in (conditions, conditions[::-1], conditions * 2, (conditions * 13)[:39], (conditions * 14)[:40]):
            self.check(6, ONE, OTHER, Costs(), sequence)

    def test_three_columns_and_six_rows(self):
        self.check(12, GREAT_ONE, GREAT_OTHER)
        self.check(0, GREAT_ONE, GREAT_ONE)
        alone = tuple([("column", c, None, True) for c in range(3)])
        self.check(2 * 15 + 12 * 4, GREAT_ONE, GREAT_OTHER, Costs(), alone)
        turned = Table(("c", "b", "a"), tuple([row[::-1] for row in GREAT_ONE.rows[::-1]]))
        self.check(2, GREAT_ONE, turned)
        self.check(3 * 50 + 2 * 50, GREAT_ONE, Table(("f", "e", "d"), turned.rows), Costs(
            cell=50, row=50, column=50, name=50, move=50,
        ))

    def test_three_columns_and_six_rows_beside_all_alignments(self):
        cost, best = by_hand.best_of_great(GREAT_ONE, GREAT_OTHER, Costs())
        told, alignment, _ = least(GREAT_ONE, GREAT_OTHER, Costs())
        self.assertEqual(told, cost)
        self.assertIn(alignment, best)

    def test_the_greatest_costs(self):
        costs = Costs(cell=50, row=50, column=50, name=50, move=50)
        one = Table(("a", "b", "c"), tuple([(k, k, k) for k in range(6)]))
        other = Table(("d", "e", "f"), tuple([(-k, -k, -k) for k in range(1, 7)]))
        # One pair of columns is cheaper than none or more: four columns alone, a name, six unlike cells.
        self.check(50 * (4 + 1 + 6), one, other, costs)
        paired = tuple([("row", i, i, True) for i in range(6)]) + tuple([("column", c, 2 - c, True) for c in range(3)])
        self.check(50 * (3 + 2 + 18), one, other, costs, paired)

    def test_forty_conditions(self):
        self.check(6, ONE, OTHER, Costs(), (("row", 0, 1, False),) * 40)


class NoneKeepsThem(unittest.TestCase):
    def check(self, *conditions, bounds=None):
        for sequence in (conditions, conditions[::-1]):
            self.assertEqual(by_hand.best(ONE, OTHER, Costs(), sequence), (None, []))
            with self.assertRaises(NoAlignment):
                least(ONE, OTHER, Costs(), sequence)
            with self.assertRaises(NoAlignment):
                least(ONE, OTHER, costs=Costs(cell=50, row=50, column=50), conditions=sequence)

    def test_about_rows(self):
        self.check(("row", 0, 0, True), ("row", 0, 0, False))
        self.check(("row", 0, 0, True), ("row", 0, 1, True))
        self.check(("row", 0, 0, True), ("row", 1, 0, True))
        self.check(("row", 0, None, True), ("row", 0, None, False))
        self.check(("row", None, 0, True), ("row", None, 0, False))
        self.check(("row", 0, None, True), ("row", 0, 0, True))
        self.check(("row", None, 0, True), ("row", 0, 0, True))
        self.check(("row", 0, None, False), ("row", 0, 0, False), ("row", 0, 1, False))
        self.check(("row", None, 1, False), ("row", 0, 1, False), ("row", 1, 1, False))
        self.check(("row", 0, None, False), ("row", None, 0, True), ("row", None, 1, True))
        self.check(("row", 0, None, False), ("row", 1, None, False), ("row", 0, 0, False), ("row", 1, 0, False))

    def test_about_columns(self):
        self.check(("column", 0, 0, True), ("column", 0, 0, False))
        self.check(("column", 0, None, True), ("column", None, 0, False))
        self.check(("column", 0, 0, False), ("column", 0, None, False))

    def test_about_both(self):
        self.check(("column", 0, 0, False), ("row", 0, 0, True))
        self.check(("column", 0, None, True), ("row", 0, None, False))
        self.check(("column", None, 0, True), ("row", None, 0, False))


class Spoilt(unittest.TestCase):
    """OWN is bounds for 3, without a number to spare beside the column; whatever is changed there spoils it."""

    def check(self, value, expected=False, cost=3, conditions=()):
        self.assertIs(shows_least(ONE, OTHER, Costs(), conditions, cost, value), expected)

    def test_as_they_are(self):
        self.check(OWN, True)

    def test_one_number(self):
        for part, at in product((1, 2), (0, 1)):
            for number in (OWN[1][part][at] + 1, OWN[1][part][at] - 1, 10 ** 5000, -10 ** 5000):
                self.check(put(OWN, (1, part, at), number))

    def test_one_number_of_the_other_entry(self):
        # There are no pairs of rows there: each number may be up to 4, and 10 is for the columns.
        for part, at in product((1, 2), (0, 1)):
            for number in (4, 3, 1, -1, -7):
                self.check(put(OWN, (0, part, at), number), True)
            for number in (5, 6, -8):
                self.check(put(OWN, (0, part, at), number))

    def test_an_entry_left_out(self):
        self.check(OWN[:1])
        self.check(OWN[1:])
        self.check(())
        self.check((), cost=-(10 ** 9))

    def test_an_entry_twice(self):
        self.check((OWN[0], OWN[0]))
        self.check((OWN[1], OWN[1]))
        self.check((OWN[0], OWN[0], OWN[1]))
        self.check((OWN[0], OWN[1], OWN[1]))

    def test_another_sequence(self):
        self.check(OWN[::-1])

    def test_other_pairs(self):
        for pairs in ((), ((0, 1),), ((1, 0),), ((0, 0), (0, 0)), ((0, 0), (1, 1)), None, 0, (0, 0), ((0, 0, 0),)):
            self.check(put(OWN, (1, 0), pairs))
        for pairs in (((0, 0),), None, False, ((),), [], {}):
            self.check(put(OWN, (0, 0), pairs))

    def test_a_list_for_a_tuple(self):
        self.check(list(OWN))
        for at in ((0,), (1,), (0, 0), (0, 1), (0, 2), (1, 0), (1, 0, 0), (1, 1), (1, 2)):
            value = OWN
            for place in at:
                value = value[place]
            with self.subTest(at):
                self.check(put(OWN, at, list(value)))

    def test_a_bool_for_a_number(self):
        one = Table(("a",), ((1,), (2,)))
        bounds = (((), (0, 0), (0, 0)), (((0, 0),), (0, 0), (0, 0)))
        self.assertIs(shows_least(one, one, Costs(), (), 0, bounds), True)
        for at in product((0, 1), (1, 2), (0, 1)):
            self.assertIs(shows_least(one, one, Costs(), (), 0, put(bounds, at, False)), False)
            self.assertIs(shows_least(one, one, Costs(), (), -5, put(bounds, at, False)), False)
        cheap = put(put(OWN, (0, 1, 0), 1), (1, 1, 0), 1)
        self.check(cheap, True, cost=1)
        self.check(put(cheap, (0, 1, 0), True), cost=1)
        self.check(put(cheap, (1, 1, 0), True), cost=1)

    def test_a_bool_for_a_place(self):
        for at, place in product(((1, 0, 0, 0), (1, 0, 0, 1)), (False,)):
            self.check(put(OWN, at, place))
        one = Table(("a", "b"), ())
        bounds = least(one, one, Costs())[2]
        self.assertIs(shows_least(one, one, Costs(), (), 0, bounds), True)
        for k, (pairs, _, _) in enumerate(bounds):
            for at, pair in enumerate(pairs):
                for side in (0, 1):
                    value = put(bounds, (k, 0, at, side), bool(pair[side]))
                    self.assertEqual(value, bounds)
                    self.assertIs(shows_least(one, one, Costs(), (), 0, value), False)

    def test_another_number_of_numbers(self):
        for k, part in product((0, 1), (1, 2)):
            for numbers in ((), (0,), (0, 0, 0), (3, 0, 0), (0, 0, 0, 0)):
                self.check(put(OWN, (k, part), numbers))
                self.check(put(OWN, (k, part), numbers), cost=-100)

    def test_another_number_of_parts(self):
        for entry in ((), ((0, 0),), (((0, 0),),), (((0, 0),), (3, 0)), (((0, 0),), (3, 0), (0, 0), ())):
            self.check(put(OWN, (1,), entry))

    def test_values_of_any_kind(self):
        for at, value in enumerate(any_values()):
            with self.subTest(at=at):
                self.check(value)
                self.check((value, OWN[1]))
                self.check((OWN[0], value))
                for k, part in product((0, 1), (0, 1, 2)):
                    if (k, part, value) != (0, 0, ()):
                        self.check(put(OWN, (k, part), value))
                for part in (1, 2):
                    if type(value) is not int:
                        self.check(put(OWN, (1, part, 0), value))
                        self.check(put(OWN, (0, part, 1), value))
                self.check(put(OWN, (1, 0, 0), value))
                if value != 0 or value is False:
                    self.check(put(OWN, (1, 0, 0, 0), value))

    def test_twenty_deep(self):
        for shell in (tuple, list, dict):
            self.check(nested(shell, 20))
            self.check((nested(shell, 19), OWN[1]))
            self.check(put(OWN, (1, 0), nested(shell, 18)))
            self.check(put(OWN, (1, 1, 0), nested(shell, 17)))

    def test_each_number_of_great_bounds(self):
        bounds = least(GREAT_ONE, GREAT_OTHER, Costs())[2]
        self.assertEqual(len(bounds), 34)
        self.assertEqual([entry[0] for entry in bounds], list(by_hand.pairings(3, 3)))
        for k, part, at in product((0, 5, 33), (1, 2), (0, 5)):
            for number in (51, -1000, False, None):
                value = put(bounds, (k, part, at), number)
                self.assertIs(shows_least(GREAT_ONE, GREAT_OTHER, Costs(), (), 12, value), False)


class OtherBounds(unittest.TestCase):
    """Whoever made them: bounds are judged by the words of the document alone."""

    def check(self, expected, cost, bounds, conditions=(), one=ONE, other=OTHER, costs=Costs()):
        self.assertIs(by_hand.are_bounds(one, other, costs, conditions, cost, bounds), expected)
        self.assertIs(shows_least(one, other, costs, conditions, cost, bounds), expected)

    def test_numbers_below_0(self):
        for left, right in (((4, 1), (-1, -1)), ((2, -1), (1, 1)), ((-96, -96), (4, 4))):
            self.check(sum(left + right) >= 3, 3, (((), (0, 0), (0, 0)), (((0, 0),), left, right)))
        self.check(True, 3, (((), (-1, -2), (-4, 0)), (((0, 0),), (4, 1), (-1, -1))))
        self.check(False, 4, (((), (-1, -2), (-4, 0)), (((0, 0),), (4, 1), (-1, -1))))
        self.check(True, 3, (((), (-1, -2), (-4, 0)), (((0, 0),), (3, 1), (-1, 0))))
        self.check(False, 3, (((), (-1, -2), (-5, 0)), (((0, 0),), (3, 1), (-1, 0))))
        self.check(True, -100, (((), (-50, -50), (-5, -5)), (((0, 0),), (-50, -50), (0, 0))))
        self.check(False, -99, (((), (-50, -50), (-5, -5)), (((0, 0),), (-50, -50), (0, 0))))

    def test_costs_below_0_and_far_above(self):
        self.check(True, 0, OWN)
        self.check(True, -1, OWN)
        self.check(True, -(10 ** 5000), OWN)
        self.check(False, 10 ** 5000, OWN)

    def test_what_may_not_go_has_no_limit(self):
        great = 10 ** 100
        bounds = (((), (great, 0), (0, 0)), (((0, 0),), (0, 0), (3, 3)))
        self.check(False, 6, bounds)
        self.check(False, 3, (((), (great, 0), (0, 0)), (((0, 0),), (3, 0), (0, 0))))
        self.check(True, 3, (((), (great, 0), (0, 0)), (((0, 0),), (3, 0), (0, 0))), (("row", 0, None, False),))
        self.check(False, 3, (((), (great, 0), (0, 0)), (((0, 0),), (3, 0), (0, 0))), (("row", 1, None, False),))
        self.check(False, 3, (((), (great, 0), (0, 0)), (((0, 0),), (3, 0), (0, 0))), (("row", None, 0, False),))
        self.check(False, 3, (((), (0, 0), (great, 0)), (((0, 0),), (3, 0), (0, 0))), (("row", 0, None, False),))
        self.check(True, 3, (((), (0, 0), (great, 0)), (((0, 0),), (3, 0), (0, 0))), (("row", None, 0, False),))
        self.check(True, 3, (((), (great, 0), (0, great)), (((0, 0),), (3, 0), (0, 0))), (("row", 0, 1, True),))
        self.check(False, 3, (((), (great, 0), (great, 0)), (((0, 0),), (3, 0), (0, 0))), (("row", 0, 1, True),))
        self.check(False, 3, (((), (0, 0), (0, great)), (((0, 0),), (3, 0), (0, 0))), (("row", 0, 1, False),))
        self.check(False, 3, (((), (great, 0), (0, 0)), (((0, 0),), (3, 0), (0, 0))), (("row", 0, None, True),))

    def test_what_may_not_be_a_pair_has_no_limit(self):
        # Rows 0 and 0 are unlike: together they are at most 3, unless a condition rules the pair out.
        bounds = (((), (0, 0), (0, 0)), (((0, 0),), (4, -4), (4, -1)))
        for expected, conditions in (
            (False, ()),
            (True, (("row", 0, 0, False),)),
            (True, (("row", 0, None, True),)),
            (True, (("row", None, 0, True),)),
            (True, (("row", 0, 1, True),)),
            (True, (("row", 1, 0, True),)),
            (False, (("row", 0, 0, True),)),
            (False, (("row", 0, None, False),)),
            (False, (("row", None, 0, False),)),
            (False, (("row", 0, 1, False),)),
            (False, (("row", 1, 0, False),)),
            (False, (("row", 1, 1, True),)),
            (False, (("row", 1, None, True),)),
            (False, (("row", None, 1, True),)),
            (False, (("row", 1, 1, False),)),
            (False, (("column", 0, 0, True),)),
        ):
            with self.subTest(conditions):
                self.check(expected, 3, bounds, conditions)

    def test_without_columns_no_rows_are_a_pair(self):
        one = Table(("a",), ((1,),))
        self.check(True, 18, (((), (4,), (4,)),), (("column", 0, 0, False),), one, one)
        self.check(False, 19, (((), (4,), (4,)),), (("column", 0, 0, False),), one, one)
        self.check(False, 18, (((), (5,), (4,)),), (("column", 0, 0, False),), one, one)
        conditions = (("column", 0, 0, False), ("row", 0, 0, True))
        self.check(True, 10 ** 100, (((), (10 ** 100,), (-10,)),), conditions, one, one)

    def test_column_conditions_leave_entries_out(self):
        for kept, conditions in (
            ((0, 1), ()), ((1,), (("column", 0, 0, True),)), ((0,), (("column", 0, 0, False),)),
            ((0,), (("column", 0, None, True),)), ((1,), (("column", None, 0, False),)),
            ((), (("column", 0, 0, True), ("column", 0, 0, False))), ((0, 1), (("row", 0, 1, True),)),
        ):
            for shown in ((), (0,), (1,), (0, 1)):
                value = tuple([OWN[k] for k in shown])
                with self.subTest(conditions=conditions, shown=shown):
                    self.assertIs(shows_least(ONE, OTHER, Costs(), conditions, 3, value), shown == kept)

    def test_no_entries_are_bounds_for_every_cost_where_no_pairing_is_left(self):
        conditions = (("column", 0, 0, True), ("column", None, 0, True))
        for cost in (-(10 ** 100), -1, 0, 1, 10 ** 100):
            self.check(True, cost, (), conditions)
            self.assertIs(shows_least(ONE, OTHER, Costs(), conditions, cost, []), False)
            self.assertIs(shows_least(ONE, OTHER, Costs(), conditions, cost, OWN), False)

    def test_bounds_for_every_cost_where_the_rows_keep_nothing(self):
        conditions = (("row", 0, 0, True), ("row", 1, 0, True))
        for cost in (4, 10 ** 4, 10 ** 100):
            bounds = (((), (cost, 0), (0, 0)), (((0, 0),), (cost, 0), (0, 0)))
            self.check(True, cost, bounds, conditions)
            self.check(False, 3 * cost + 11, bounds, conditions)
            self.check(False, cost, bounds, conditions[:1])

    def test_costs_of_the_columns_count(self):
        one, other = Table(("a", "b"), ()), Table(("c", "a"), ())
        costs = Costs(column=11, name=7, move=5)
        prices = [by_hand.column_cost(one, other, costs, pairs) for pairs in by_hand.pairings(2, 2)]
        self.assertEqual(sorted(prices), [12, 14, 22, 29, 29, 29, 44])
        bounds = tuple([(pairs, (), ()) for pairs in by_hand.pairings(2, 2)])
        self.check(True, 12, bounds, (), one, other, costs)
        self.check(False, 13, bounds, (), one, other, costs)
        self.assertEqual(least(one, other, costs), (12, (((0, 1), (1, 0)), ()), bounds))


class Errors(unittest.TestCase):
    def test_conditions_come_ahead_of_no_alignment(self):
        hopeless = (("row", 0, 0, True), ("row", 0, 0, False))
        wrong = ("row", 0, 0, 1)
        with self.assertRaises(BadCondition) as caught:
            least(ONE, OTHER, Costs(), (*hopeless, wrong))
        self.assertIs(caught.exception.value, wrong)

    def test_conditions_come_ahead_of_wrong_bounds(self):
        wrong = ["row", 0, 0, True]
        for value in (OWN, None, [], ()):
            with self.assertRaises(BadCondition) as caught:
                shows_least(ONE, OTHER, Costs(), (wrong,), 3, value)
            self.assertIs(caught.exception.value, wrong)

    def test_no_alignment_has_no_arguments(self):
        with self.assertRaises(NoAlignment) as caught:
            least(ONE, OTHER, Costs(), (("row", 0, 0, True), ("row", 0, 0, False)))
        self.assertEqual(vars(caught.exception), {})


if __name__ == "__main__":
    unittest.main()
