"""Section 12: histories, their versions, costs and sayings, and what contradicts one another."""

import unittest

import by_hand
import by_hand_courses
from samples import any_values
from tableheld.alignments import keeps
from tableheld.comparing import compare
from tableheld.costs import Costs
from tableheld.errors import (
    BadCondition, BadCosts, BadTable, Contradiction, NoSaying, NoStep, NoVersion, TooMany,
)
from tableheld.history import History
from tableheld.tables import Table

ONE, TWO, THREE = Table(("a",), ((1,), (2,))), Table(("a",), ((2,), (3,))), Table(("a", "b"), ((1, 2),))


def three_versions():
    history = History(ONE)
    history.add(TWO)
    history.add(THREE)
    return history


def state(history):
    """Return all that a history tells of itself."""
    tables = [history.version(number) for number in range(history.last + 1)]
    return tables, history.costs, history.sayings


def answers(comparison):
    """Return much of what a comparison tells."""
    claims = by_hand.claims(comparison.one, comparison.other)
    return (
        comparison.cost, comparison.how_many(), comparison.best(), [comparison.verdict(*claim) for claim in claims],
        [comparison.reason(*claim) for claim in claims],
    )


class Making(unittest.TestCase):
    def test_table_is_version_0(self):
        history = History(ONE)
        self.assertEqual(history.last, 0)
        self.assertEqual(history.version(0), ONE)
        self.assertEqual(history.sayings, ())

    def test_costs(self):
        self.assertEqual(History(ONE).costs, Costs())
        self.assertEqual(History(ONE, None).costs, Costs())
        costs = Costs(row=9)
        self.assertEqual(History(ONE, costs).costs, costs)
        self.assertEqual(History(costs=costs, table=ONE).costs, costs)

    def test_attributes_are_set_when_it_is_made(self):
        history = History(ONE)
        for name in ("last", "costs", "sayings"):
            self.assertIn(name, vars(history))

    def test_no_table(self):
        for value in [*any_values(), Costs(), History(ONE)]:
            for costs in (None, Costs(), value):
                with self.assertRaises(BadTable) as caught:
                    History(value, costs)
                self.assertIs(caught.exception.value, value)

    def test_no_costs(self):
        for value in [*any_values(), ONE]:
            if value is not None:
                with self.assertRaises(BadCosts) as caught:
                    History(ONE, value)
                self.assertIs(caught.exception.value, value)

    def test_two_histories_share_nothing(self):
        one, other = History(ONE), History(ONE)
        one.add(TWO)
        one.say(1, "row", 0, 0, True)
        self.assertEqual(state(other), ([ONE], Costs(), ()))


class Versions(unittest.TestCase):
    def test_numbers(self):
        history = History(ONE)
        self.assertEqual([history.add(TWO), history.add(THREE)], [1, 2])
        self.assertEqual(history.last, 2)
        self.assertEqual([history.version(number) for number in (0, 1, 2)], [ONE, TWO, THREE])

    def test_twelve_and_a_thirteenth(self):
        history = History(ONE)
        for number in range(1, 12):
            self.assertEqual(history.add(TWO if number % 2 else ONE), number)
        before = state(history)
        for table in (ONE, THREE):
            with self.assertRaises(TooMany) as caught:
                history.add(table)
            self.assertEqual(caught.exception.limit, 12)
        with self.assertRaises(BadTable):
            history.add(None)
        self.assertEqual(state(history), before)
        self.assertEqual(history.last, 11)
        self.assertEqual(history.comparison(11).other, TWO)

    def test_tables_that_come_again(self):
        history = History(ONE)
        self.assertEqual([history.add(TWO), history.add(ONE), history.add(ONE)], [1, 2, 3])
        self.assertEqual(answers(history.comparison(1)), answers(compare(ONE, TWO, Costs())))
        self.assertEqual(answers(history.comparison(2)), answers(compare(TWO, ONE, Costs())))
        self.assertEqual(answers(history.comparison(3)), answers(compare(ONE, ONE, Costs())))
        # What is said of a step is said of none that looks like it.
        history.add(TWO)
        history.say(4, "row", 0, None, True)
        self.assertEqual(answers(history.comparison(1)), answers(compare(ONE, TWO, Costs())))
        self.assertEqual(history.comparison(4).partners("row", 0), (None,))

    def test_add_no_table(self):
        history = three_versions()
        for value in [*any_values(), Costs(), history]:
            with self.assertRaises(BadTable) as caught:
                history.add(value)
            self.assertIs(caught.exception.value, value)
        self.assertEqual(history.last, 2)

    def test_no_version(self):
        history = three_versions()
        for value in any_values():
            if value in (0, 1, 2) and not isinstance(value, bool):
                self.assertEqual(history.version(value), (ONE, TWO, THREE)[value])
            else:
                with self.assertRaises(NoVersion) as caught:
                    history.version(value)
                self.assertIs(caught.exception.value, value)
        for value in (3, -1, -3):
            with self.assertRaises(NoVersion):
                history.version(value)


class Recost(unittest.TestCase):
    def test_other_costs(self):
        history = three_versions()
        costs = Costs(row=1)
        self.assertIs(history.recost(costs), None)
        self.assertEqual(history.costs, costs)
        self.assertEqual(answers(history.comparison(1)), answers(compare(ONE, TWO, costs)))
        history.recost(Costs())
        self.assertEqual(answers(history.comparison(1)), answers(compare(ONE, TWO, Costs())))

    def test_they_change_no_comparison_that_was_told(self):
        history = three_versions()
        told = history.comparison(1)
        before = answers(told)
        history.recost(Costs(row=1, cell=5))
        self.assertNotEqual(answers(history.comparison(1)), before)
        self.assertEqual(answers(told), before)

    def test_no_costs(self):
        history = three_versions()
        history.recost(Costs(row=7))
        for value in [*any_values(), ONE]:
            with self.assertRaises(BadCosts) as caught:
                history.recost(value)
            self.assertIs(caught.exception.value, value)
        self.assertEqual(history.costs, Costs(row=7))


class Comparisons(unittest.TestCase):
    def test_of_two_tables_with_costs_and_sayings(self):
        for seed in range(40):
            history = by_hand_courses.some_history(seed)
            for step, best in enumerate(by_hand_courses.best_of_steps(history), 1):
                comparison = history.comparison(step)
                self.assertEqual(comparison.how_many(), len(best))
                self.assertIn(comparison.best(), best)
                one, other = history.version(step - 1), history.version(step)
                self.assertEqual(comparison.cost, by_hand.cost(one, other, history.costs, best[0]))

    def test_sayings_change_no_comparison_that_was_told(self):
        history = three_versions()
        told = history.comparison(1)
        before = answers(told)
        history.say(1, "row", 1, 0, False)
        self.assertNotEqual(answers(history.comparison(1)), before)
        self.assertEqual(answers(told), before)
        history.unsay(0)
        self.assertEqual(answers(history.comparison(1)), before)

    def test_sayings_of_another_step_change_nothing(self):
        history = three_versions()
        before = answers(history.comparison(2))
        history.say(1, "row", 1, 0, False)
        self.assertEqual(answers(history.comparison(2)), before)

    def test_no_step(self):
        history = three_versions()
        for value in [*any_values(), 3, 12]:
            if value in (1, 2) and not isinstance(value, bool):
                history.comparison(value)
            else:
                with self.assertRaises(NoStep) as caught:
                    history.comparison(value)
                self.assertIs(caught.exception.value, value)
        with self.assertRaises(NoStep):
            History(ONE).comparison(1)
        with self.assertRaises(NoStep):
            History(ONE).comparison(0)


class Sayings(unittest.TestCase):
    def test_numbers_and_what_stands(self):
        history = three_versions()
        self.assertEqual(history.say(1, "row", 0, 0, True), 0)
        self.assertEqual(history.say(2, "column", 0, None, False), 1)
        self.assertEqual(history.say(1, "row", None, 1, False), 2)
        self.assertEqual(history.sayings, (
            (0, 1, "row", 0, 0, True), (1, 2, "column", 0, None, False), (2, 1, "row", None, 1, False),
        ))

    def test_the_same_one_twice(self):
        history = three_versions()
        self.assertEqual([history.say(1, "row", 0, 0, True), history.say(1, "row", 0, 0, True)], [0, 1])
        history.unsay(0)
        self.assertEqual(history.sayings, ((1, 1, "row", 0, 0, True),))
        self.assertEqual(history.comparison(1).partners("row", 0), (0,))

    def test_no_number_twice_behind_one_taken_back(self):
        history = three_versions()
        history.say(1, "row", 0, 0, True)
        history.say(1, "row", 1, 1, True)
        self.assertIs(history.unsay(1), None)
        self.assertEqual(history.say(1, "row", 1, 1, True), 2)
        history.unsay(0)
        history.unsay(2)
        self.assertEqual(history.say(2, "row", 0, None, False), 3)
        self.assertEqual(history.sayings, ((3, 2, "row", 0, None, False),))

    def test_a_refused_one_takes_no_number(self):
        history = three_versions()
        history.say(1, "row", 0, 0, True)
        before = state(history)
        for error, saying in (
            (NoStep, (3, "row", 0, 0, True)),
            (BadCondition, (1, "row", 2, 0, True)),
            (Contradiction, (1, "row", 0, 1, True)),
        ):
            with self.assertRaises(error):
                history.say(*saying)
            self.assertEqual(state(history), before)
        self.assertEqual(history.say(1, "row", 1, 1, True), 1)

    def test_no_step(self):
        history = three_versions()
        for value in [*any_values(), 3]:
            if value not in (1, 2) or isinstance(value, bool):
                for rest in (("row", 0, 0, True), ("x", 0, 0, True)):
                    with self.assertRaises(NoStep) as caught:
                        history.say(value, *rest)
                    self.assertIs(caught.exception.value, value)

    def test_no_condition(self):
        history = three_versions()
        for saying in (
            ("rows", 0, 0, True), ("row", 2, 0, True), ("row", 0, 2, True), ("row", None, None, True),
            ("row", 0, 0, 1), ("row", 0, 0, None), ("row", True, 0, True), ("row", 0, False, True),
            ("row", -1, 0, True), ("column", 1, 0, True), ("column", 0, 1, False), (None, 0, 0, True),
        ):
            with self.assertRaises(BadCondition) as caught:
                history.say(1, *saying)
            self.assertEqual(caught.exception.value, saying)
            self.assertEqual([type(member) for member in caught.exception.value], [type(member) for member in saying])
        # Places are those of the tables of the step.
        self.assertEqual(history.say(2, "column", 0, 1, False), 0)
        with self.assertRaises(BadCondition):
            history.say(2, "row", 0, 1, False)

    def test_any_values(self):
        history = three_versions()
        for value in any_values():
            for at in range(4):
                saying = ["row", 0, 0, False]
                saying[at] = value
                try:
                    history.unsay(history.say(1, *saying))
                except BadCondition as error:
                    self.assertEqual(error.value, tuple(saying))
                    self.assertIs(error.value[at], value)
        self.assertEqual(history.sayings, ())


class TakingBack(unittest.TestCase):
    def test_no_saying(self):
        history = three_versions()
        history.say(1, "row", 0, 0, True)
        history.say(1, "row", 1, 1, True)
        history.say(2, "row", 0, 0, True)
        history.unsay(1)
        before = state(history)
        for value in [*any_values(), 3]:
            if value not in (0, 2) or isinstance(value, bool):
                with self.assertRaises(NoSaying) as caught:
                    history.unsay(value)
                self.assertIs(caught.exception.value, value)
        self.assertEqual(state(history), before)

    def test_none_twice(self):
        history = three_versions()
        history.say(1, "row", 0, 0, True)
        history.unsay(0)
        with self.assertRaises(NoSaying):
            history.unsay(0)

    def test_what_contradicted_it_may_be_said_then(self):
        history = three_versions()
        history.say(1, "row", 0, 0, True)
        with self.assertRaises(Contradiction):
            history.say(1, "row", 0, 1, True)
        history.unsay(0)
        self.assertEqual(history.say(1, "row", 0, 1, True), 1)
        self.assertEqual(history.comparison(1).partners("row", 0), (1,))


class Forty(unittest.TestCase):
    def forty(self):
        history = three_versions()
        history.say(2, "row", 0, 0, True)
        for number in range(40):
            self.assertEqual(history.say(1, "row", 0, 0, True), number + 1)
        return history

    def test_a_forty_first(self):
        history = self.forty()
        before = state(history)
        for saying in (("row", 0, 0, True), ("row", 1, 1, True), ("row", 0, 1, True), ("row", 0, None, True)):
            with self.assertRaises(TooMany) as caught:
                history.say(1, *saying)
            self.assertEqual(caught.exception.limit, 40)
        self.assertEqual(state(history), before)

    def test_which_error_is_first(self):
        history = self.forty()
        with self.assertRaises(NoStep):
            history.say(3, "row", 0, 0, True)
        with self.assertRaises(BadCondition):
            history.say(1, "row", 0, 0, 0)

    def test_another_step_takes_more(self):
        history = self.forty()
        self.assertEqual(history.say(2, "row", 0, 0, True), 41)

    def test_one_taken_back_leaves_room(self):
        history = self.forty()
        history.unsay(17)
        with self.assertRaises(Contradiction) as caught:
            history.say(1, "row", 0, 1, True)
        # The sayings are left out from the least number on: so the last one of those alike stays.
        self.assertEqual(caught.exception.numbers, (40, 41))
        self.assertEqual(history.say(1, "row", 1, 1, True), 41)
        with self.assertRaises(TooMany):
            history.say(1, "row", 1, 1, True)

    def test_forty_count_in_a_comparison(self):
        history = self.forty()
        self.assertEqual(history.comparison(1).partners("row", 0), (0,))


def numbers_by_hand(one, other, sayings):
    """Return which sayings are left if each, from the first on, is left out that is not needed."""
    left = list(sayings)
    for saying in sayings:
        fewer = [known for known in left if known is not saying]
        if not any(by_hand.keeps(found, [known[2:] for known in fewer]) for found in by_hand.alignments(one, other)):
            left = fewer
    return tuple([saying[0] for saying in left])


class Contradictions(unittest.TestCase):
    def check(self, one, other, said, refused, numbers):
        history = History(one)
        history.add(other)
        for saying in said:
            history.say(1, *saying)
        before = state(history)
        with self.assertRaises(Contradiction) as caught:
            history.say(1, *refused)
        self.assertEqual(caught.exception.numbers, numbers)
        self.assertIs(type(caught.exception.numbers), tuple)
        self.assertEqual(state(history), before)

    def test_of_a_column_and_a_row(self):
        # Without a pair of columns there is none of rows.
        one, other = Table(("a",), ((1,),)), Table(("a",), ((1,),))
        self.check(one, other, [("column", 0, 0, False)], ("row", 0, 0, True), (0, 1))

    def test_two(self):
        self.check(ONE, TWO, [("row", 0, 0, True)], ("row", 0, 0, False), (0, 1))
        self.check(ONE, TWO, [("row", 0, 0, True)], ("row", 1, 0, True), (0, 1))
        self.check(ONE, TWO, [("row", 0, 0, True)], ("row", 0, None, True), (0, 1))
        self.check(ONE, TWO, [("row", 0, 0, True)], ("row", None, 0, True), (0, 1))
        self.check(THREE, THREE, [("column", 0, 0, True)], ("column", 1, 0, True), (0, 1))

    def test_two_among_others(self):
        said = [("row", 1, None, False), ("row", 0, 0, True), ("column", 0, 0, True), ("row", None, 1, False)]
        self.check(ONE, TWO, said, ("row", 0, 1, True), (1, 4))

    def test_three(self):
        said = [("row", 0, 0, False), ("row", 0, 1, False)]
        self.check(ONE, TWO, said, ("row", 0, None, False), (0, 1, 2))
        said = [("column", 0, None, True), ("row", 0, None, False)]
        self.check(THREE, THREE, said, ("column", 1, None, True), (0, 1, 2))

    def test_three_among_others(self):
        one, other = Table(("a",), ((1,), (2,), (3,))), Table(("a",), ((1,), (2,)))
        said = [
            ("row", 0, None, False), ("column", 0, 0, True), ("row", 1, None, False), ("row", 0, 1, False),
        ]
        self.check(one, other, said, ("row", 2, None, False), (0, 2, 4))

    def test_many(self):
        one, other = Table(("a",), ((1,),) * 6), Table(("a",), ((1,),) * 5)
        said = [("row", i, None, False) for i in range(5)]
        self.check(one, other, said, ("row", 5, None, False), (0, 1, 2, 3, 4, 5))
        one = Table(("a",), ((1,),))
        said = [("row", 0, j, False) for j in range(5)]
        self.check(one, other, said, ("row", 0, None, False), (0, 1, 2, 3, 4, 5))

    def test_the_new_one_is_always_in_it(self):
        history = History(ONE)
        history.add(TWO)
        history.say(1, "row", 0, 0, True)
        history.say(1, "row", 0, 0, True)
        history.unsay(0)
        with self.assertRaises(Contradiction) as caught:
            history.say(1, "row", 0, 0, False)
        self.assertEqual(caught.exception.numbers, (1, 2))

    def test_those_of_another_step_have_no_part(self):
        history = three_versions()
        history.say(2, "row", 0, 0, True)
        history.say(1, "row", 0, 0, True)
        history.say(2, "row", 1, None, True)
        with self.assertRaises(Contradiction) as caught:
            history.say(1, "row", 0, 0, False)
        self.assertEqual(caught.exception.numbers, (1, 3))

    def test_which_of_several_are_left(self):
        # Row 0 is said to be 0 twice, in two ways: the ones with the lesser numbers are left out.
        said = [("row", 0, 0, True), ("row", 1, 0, False), ("row", 0, None, False), ("row", 0, 1, False)]
        self.check(ONE, TWO, said, ("row", 0, 0, False), (2, 3, 4))

    def test_beside_all_alignments(self):
        refused = 0
        for seed in range(120):
            numbers = by_hand.Numbers(seed)
            one = by_hand.some_table(numbers, 1 + numbers.below(2), numbers.below(4))
            other = by_hand.some_changed(numbers, one, numbers.below(4))
            history = History(one)
            history.add(other)
            for number in range(14):
                saying = (*numbers.one_of(by_hand.claims(one, other)), numbers.below(3) == 0)
                told = [known[2:] for known in history.sayings]
                if any(by_hand.keeps(found, [*told, saying]) for found in by_hand.alignments(one, other)):
                    history.say(1, *saying)
                    self.assertTrue(keeps(one, other, history.comparison(1).best(), tuple([*told, saying])))
                else:
                    refused += 1
                    with self.assertRaises(Contradiction) as caught:
                        history.say(1, *saying)
                    together = [*history.sayings, (len(history.sayings), 1, *saying)]
                    self.assertEqual(caught.exception.numbers, numbers_by_hand(one, other, together))
        self.assertGreater(refused, 100)


class Equal(unittest.TestCase):
    def test_those_with_the_same_text(self):
        one, other = three_versions(), three_versions()
        self.assertTrue(one == other)
        self.assertFalse(one != other)
        one.say(1, "row", 0, 0, True)
        self.assertFalse(one == other)
        other.say(1, "row", 0, 0, True)
        self.assertTrue(one == other)
        one.comparison(1)
        self.assertTrue(one == other)

    def test_what_makes_them_unlike(self):
        for change in (
            lambda history: history.add(ONE),
            lambda history: history.recost(Costs(name=2)),
            lambda history: history.say(1, "row", 0, 0, True),
            # What is left of a saying that was taken back is the number of the next one.
            lambda history: history.unsay(history.say(1, "row", 0, 0, True)),
        ):
            history = three_versions()
            change(history)
            self.assertTrue(history != three_versions())

    def test_sayings_in_another_sequence(self):
        one, other = three_versions(), three_versions()
        for history, sayings in ((one, (0, 1)), (other, (1, 0))):
            for i in sayings:
                history.say(1, "row", i, i, True)
        self.assertTrue(one != other)

    def test_same_costs_told_or_not(self):
        self.assertTrue(History(ONE) == History(ONE, Costs()))

    def test_nothing_else(self):
        history = three_versions()
        for value in [*any_values(), ONE, Costs()]:
            self.assertFalse(history == value)
            self.assertTrue(history != value)


if __name__ == "__main__":
    unittest.main()
