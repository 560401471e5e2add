"""Section 2 and the interface, over histories, merges, trials and texts."""

import copy
import inspect
import unittest

import by_hand_courses
import by_hand_merges
from samples import any_values
from tableheld import history, merging, texts
from tableheld.costs import Costs
from tableheld.errors import HeldError
from tableheld.history import History, shows_track
from tableheld.merging import merge, shows_doubt
from tableheld.tables import Table
from tableheld.texts import read_history, read_table, show_history, show_table

ONE, TWO = Table(("a", "b"), ((1, 2), (3, 4))), Table(("b", "c"), ((2, 1), (5, 3), (5, 3)))
METHODS_OF_HISTORY = {
    "__init__": "(self, table, costs=None)",
    "__eq__": "(self, other)",
    "add": "(self, table)",
    "version": "(self, number)",
    "recost": "(self, costs)",
    "comparison": "(self, step)",
    "say": "(self, step, kind, i, j, truth)",
    "unsay": "(self, number)",
    "origins": "(self, kind, version, i, earlier)",
    "fates": "(self, kind, version, i, later)",
    "births": "(self, kind, version, i)",
    "settings": "(self, version, i, c)",
    "track": "(self, version, i, c, setting)",
    "trial": "(self)",
    "tried": "(self, deed)",
}
METHODS_OF_MERGE = {
    "disagreement": "(self)",
    "outcomes": "(self, i)",
    "arrivals": "(self, side)",
    "table": "(self)",
    "doubt": "(self)",
}


def some_history():
    made = History(ONE)
    made.add(TWO)
    made.add(ONE)
    made.say(1, "row", 0, 0, True)
    made.say(2, "column", 0, 1, False)
    return made


def some_merge():
    return merge(Table(("a",), ((1,), (1,))), Table(("a",), ((2,), (1,))), Table(("a",), ((1,), (3,))), Costs())


def told(call):
    """Return what a call returns, or the name and the arguments of the error that it raises."""
    try:
        return call()
    except HeldError as error:
        return type(error).__name__, vars(error)


def state(made):
    """Return all that a history tells of itself, and its text."""
    tables = [made.version(number) for number in range(made.last + 1)]
    return tables, made.costs, made.sayings, show_history(made)


def calls(made, merged, value):
    """Return every call that accepts any value, with this one; none of them changes the history with it."""
    return [
        lambda: History(value),
        lambda: History(ONE, value),
        lambda: made.add(value),
        lambda: made.version(value),
        lambda: made.recost(value),
        lambda: made.comparison(value),
        lambda: made.say(value, "row", 0, 9, True),
        lambda: made.say(1, value, 0, 0, True),
        lambda: made.say(1, "row", value, 9, True),
        lambda: made.say(1, "row", 9, value, True),
        lambda: made.say(1, "row", 0, 9, value),
        lambda: made.unsay([value]),
        lambda: made.origins(value, 2, 0, 0),
        lambda: made.origins("row", value, 0, 0),
        lambda: made.origins("row", 2, value, 0),
        lambda: made.origins("row", 2, 0, value),
        lambda: made.fates(value, 0, 0, 2),
        lambda: made.fates("column", value, 0, 2),
        lambda: made.fates("column", 0, value, 2),
        lambda: made.fates("column", 0, 0, value),
        lambda: made.births(value, 2, 0),
        lambda: made.births("row", value, 0),
        lambda: made.births("row", 2, value),
        lambda: made.settings(value, 0, 0),
        lambda: made.settings(2, value, 0),
        lambda: made.settings(2, 0, value),
        lambda: made.track(value, 0, 0, 0),
        lambda: made.track(2, value, 0, 0),
        lambda: made.track(2, 0, value, 0),
        lambda: made.track(2, 0, 0, value),
        lambda: shows_track(made, value, 0, 0, 0, ()),
        lambda: shows_track(made, 2, value, 0, 0, ()),
        lambda: shows_track(made, 2, 0, value, 0, ()),
        lambda: shows_track(made, 2, 0, 0, value, ()),
        lambda: shows_track(made, 2, 0, 0, 0, value),
        lambda: shows_track(made, 2, 0, 0, 0, ("may", value)),
        lambda: shows_track(made, 2, 0, 0, 0, ("never", (value, value, value))),
        lambda: merge(ONE, ONE, TWO, Costs(), for_ours=value),
        lambda: merge(ONE, ONE, TWO, Costs(), for_theirs=(value,)),
        lambda: merged.outcomes(value),
        lambda: merged.arrivals(value),
        lambda: shows_doubt(merged, value),
        lambda: shows_doubt(merged, (value, value)),
        lambda: read_table(value),
        lambda: read_history(value),
    ]


class Interface(unittest.TestCase):
    def test_history(self):
        self.assertEqual(History.__module__, "tableheld.history")
        self.assertIs(history.History, History)
        for name, parameters in METHODS_OF_HISTORY.items():
            with self.subTest(name):
                self.assertEqual(str(inspect.signature(vars(History)[name])), parameters)

    def test_attributes_are_set_when_it_is_made(self):
        made = History(ONE)
        for name, value in (("last", 0), ("costs", Costs()), ("sayings", ())):
            self.assertEqual(vars(made)[name], value)
        self.assertEqual(vars(some_merge())["columns"], ("a",))

    def test_functions(self):
        for module, name, parameters in (
            (history, "shows_track", "(history, version, i, c, setting, value)"),
            (merging, "merge", "(base, ours, theirs, costs, *, for_ours=(), for_theirs=())"),
            (merging, "shows_doubt", "(merged, value)"),
            (texts, "show_table", "(table)"),
            (texts, "read_table", "(text)"),
            (texts, "show_history", "(history)"),
            (texts, "read_history", "(text)"),
        ):
            with self.subTest(name):
                function = getattr(module, name)
                self.assertTrue(inspect.isfunction(function))
                self.assertEqual(function.__module__, module.__name__)
                self.assertEqual(str(inspect.signature(function)), parameters)

    def test_merge(self):
        for name, parameters in METHODS_OF_MERGE.items():
            with self.subTest(name):
                self.assertEqual(str(inspect.signature(vars(type(some_merge()))[name])), parameters)

    def test_trial(self):
        made = type(History(ONE).trial())
        self.assertEqual(str(inspect.signature(vars(made)["keep"])), "(self)")
        self.assertEqual(made.__module__, "tableheld.trials")


class Arguments(unittest.TestCase):
    def test_by_position_or_by_name(self):
        made = some_history()
        self.assertEqual(made.version(number=1), made.version(1))
        self.assertEqual(made.comparison(step=1).cost, made.comparison(1).cost)
        self.assertEqual(made.origins(earlier=0, i=1, version=2, kind="row"), made.origins("row", 2, 1, 0))
        self.assertEqual(made.fates(later=2, i=1, version=0, kind="row"), made.fates("row", 0, 1, 2))
        self.assertEqual(made.births(i=1, version=2, kind="row"), made.births("row", 2, 1))
        self.assertEqual(made.settings(c=0, i=1, version=2), made.settings(2, 1, 0))
        track = made.track(setting=1, c=0, i=1, version=2)
        self.assertEqual(track, made.track(2, 1, 0, 1))
        self.assertTrue(shows_track(value=track, setting=1, c=0, i=1, version=2, history=made))
        self.assertEqual(made.say(truth=False, j=None, i=1, kind="row", step=2), 2)
        self.assertEqual(made.unsay(number=2), None)
        self.assertEqual(made.add(table=TWO), 3)
        self.assertEqual(made.recost(costs=Costs(name=2)), None)
        self.assertEqual(made.costs, Costs(name=2))

    def test_merges_by_position_or_by_name(self):
        given = {"costs": Costs(), "theirs": ONE, "ours": ONE, "base": ONE}
        self.assertEqual(merge(**given).columns, merge(ONE, ONE, ONE, Costs()).columns)
        merged = some_merge()
        self.assertEqual(merged.outcomes(i=1), merged.outcomes(1))
        self.assertEqual(merged.arrivals(side="ours"), merged.arrivals("ours"))
        self.assertTrue(shows_doubt(value=merged.doubt(), merged=merged))

    def test_values_stay_unchanged(self):
        made, merged = some_history(), some_merge()
        for at in range(len(any_values())):
            with self.subTest(at=at):
                value = any_values()[at]
                before = copy.deepcopy(value)
                for call in calls(made, merged, value):
                    told(call)
                    self.assertEqual(value, before)

    def test_objects_stay_unchanged(self):
        tables = [dict(vars(table)) for table in (ONE, TWO)]
        costs = Costs(cell=2)
        merged = merge(ONE, TWO, ONE, costs)
        merged.table()
        made = History(ONE, costs)
        made.add(TWO)
        before = state(made)
        for i in range(3):
            made.track(1, i, 0, 0)
            made.births("row", 1, i)
        shown = show_history(made)
        read_history(shown)
        self.assertEqual(state(made), before)
        self.assertEqual([dict(vars(table)) for table in (ONE, TWO)], tables)
        self.assertEqual(costs, Costs(cell=2))


class AnyValues(unittest.TestCase):
    """Each of them is taken, or one of our own errors is raised, which changes nothing."""

    def test_they_are_taken_or_refused(self):
        made, merged = some_history(), some_merge()
        before = state(made)
        for at, value in enumerate(any_values()):
            with self.subTest(at=at):
                for call in calls(made, merged, value):
                    told(call)
                self.assertEqual(state(made), before)

    def test_numbers_go_on_behind_errors(self):
        made, merged = some_history(), some_merge()
        for value in any_values():
            for call in calls(made, merged, value):
                told(call)
        self.assertEqual(made.say(1, "row", 0, 0, True), 2)
        self.assertEqual(made.add(ONE), 3)


class Results(unittest.TestCase):
    def check_tuples(self, value):
        """There is no list in what is returned, however deep."""
        self.assertIn(type(value), (tuple, int, str, bool, type(None)))
        if isinstance(value, tuple):
            for member in value:
                self.check_tuples(member)

    def test_sequences_are_tuples(self):
        for seed in range(30):
            made = by_hand_courses.some_history(seed)
            self.check_tuples(made.sayings)
            self.assertIs(type(made.sayings), tuple)
            table = made.version(made.last)
            for i in range(len(table.rows)):
                for value in (
                    made.origins("row", made.last, i, 0), made.births("row", made.last, i),
                    made.settings(made.last, i, 0), made.track(made.last, i, 0, 0), made.track(made.last, i, 0, 2),
                    made.fates("column", 0, 0, made.last),
                ):
                    self.assertIs(type(value), tuple)
                    self.check_tuples(value)

    def test_sequences_of_merges_are_tuples(self):
        for merged in (some_merge(), merge(ONE, TWO, ONE, Costs()), merge(ONE, ONE, ONE, Costs())):
            values = [merged.columns, merged.arrivals("ours"), merged.outcomes(0), merged.outcomes(1)]
            for value in values:
                self.assertIs(type(value), tuple)
            self.check_tuples((*values, merged.doubt()))

    def test_what_returns_nothing(self):
        made = some_history()
        self.assertIs(made.recost(Costs()), None)
        self.assertIs(made.unsay(0), None)
        with made.trial() as trial:
            self.assertIs(trial.keep(), None)

    def test_equal_calls_return_equal_results(self):
        made, merged = some_history(), some_merge()
        for value in any_values():
            for first, second in zip(calls(made, merged, value), calls(made, merged, value)):
                one, other = told(first), told(second)
                if type(one).__module__ == "builtins":
                    self.assertEqual(one, other)

    def test_equal_questions_have_equal_answers_whatever_was_asked_before(self):
        for seed in range(20):
            one, other = by_hand_courses.some_history(seed), by_hand_courses.some_history(seed)
            table = one.version(one.last)
            cells = [(i, c) for i in range(len(table.rows)) for c in range(len(table.columns))]
            asked = [(one.last, i, c, setting) for i, c in cells for setting in (0, 1, 2)]
            first = [(one.track(*question), one.settings(*question[:3])) for question in asked]
            second = [(other.track(*question), other.settings(*question[:3])) for question in asked[::-1]][::-1]
            self.assertEqual(first, second)

    def test_merges_tell_the_same_again(self):
        for seed in range(60):
            sides = by_hand_merges.some_sides(seed)
            made = []
            for _ in range(2):
                merged = told(lambda: merge(
                    sides.base, *sides.tables, sides.costs,
                    for_ours=sides.conditions[0], for_theirs=sides.conditions[1],
                ))
                if isinstance(merged, tuple):
                    made.append(merged)
                else:
                    table = told(merged.table)
                    made.append([
                        merged.columns, merged.disagreement(), merged.doubt(), merged.doubt(), table,
                        [merged.outcomes(i) for i in range(len(sides.base.rows))],
                        [merged.arrivals(side) for side in ("ours", "theirs")],
                    ])
            self.assertEqual(made[0], made[1])

    def test_texts_are_texts(self):
        self.assertIs(type(show_table(ONE)), str)
        self.assertIs(type(show_history(some_history())), str)
        self.assertIs(type(read_table(show_table(ONE))), Table)
        self.assertIs(type(read_history(show_history(some_history()))), History)


class Integers(unittest.TestCase):
    def test_bools_are_none(self):
        made, merged = some_history(), some_merge()
        for value in (True, False):
            for name, call in (
                ("NoVersion", lambda: made.version(value)),
                ("NoStep", lambda: made.comparison(value)),
                ("NoStep", lambda: made.say(value, "row", 0, 0, True)),
                ("NoSaying", lambda: made.unsay(value)),
                ("NoVersion", lambda: made.origins("row", 2, 0, value)),
                ("NoVersion", lambda: made.births("row", value, 0)),
                ("NoPlace", lambda: made.births("row", 2, value)),
                ("NoPlace", lambda: made.settings(2, value, 0)),
                ("NoPlace", lambda: made.settings(2, 0, value)),
                ("NoVersion", lambda: made.track(2, 0, 0, value)),
                ("NoPlace", lambda: merged.outcomes(value)),
            ):
                found = told(call)
                self.assertEqual(found[0], name)
                self.assertIs(found[1]["value"], value)


if __name__ == "__main__":
    unittest.main()
