"""Section 17: trials, which leave nothing unless they are kept."""

import unittest

import by_hand
from tableheld.costs import Costs
from tableheld.errors import BadTable, Contradiction, NoStep, NoVersion, TooMany
from tableheld.history import History
from tableheld.merging import merge
from tableheld.tables import Table
from tableheld.texts import show_history

ONE, TWO, THREE = Table(("a",), ((1,), (2,))), Table(("a",), ((2,), (3,))), Table(("a", "b"), ((1, 2),))


class Refused(Exception):
    """What the blocks of these tests raise."""


def some_history():
    history = History(ONE, Costs(row=5))
    history.add(TWO)
    history.say(1, "row", 0, 1, True)
    history.say(1, "row", 1, 0, True)
    history.unsay(0)
    return history


def change(history):
    """Do everything to a history that can be done."""
    history.add(THREE)
    history.recost(Costs(cell=1))
    history.say(2, "row", 0, None, False)
    history.unsay(1)
    history.say(1, "row", 0, None, True)


def changed():
    history = some_history()
    change(history)
    return history


def told(history):
    """Return what a history tells."""
    steps = range(1, history.last + 1)
    return (
        history.last, history.costs, history.sayings, show_history(history),
        [history.version(number) for number in range(history.last + 1)],
        [(history.comparison(step).cost, history.comparison(step).how_many()) for step in steps],
        [history.births("row", history.last, i) for i in range(len(history.version(history.last).rows))],
        [history.settings(history.last, i, 0) for i in range(len(history.version(history.last).rows))],
    )


class NotKept(unittest.TestCase):
    def check(self, history, before):
        self.assertEqual(history, some_history())
        self.assertEqual(told(history), before)
        with self.assertRaises(NoVersion):
            history.version(2)
        with self.assertRaises(NoStep):
            history.comparison(2)

    def test_it_leaves_nothing(self):
        history = some_history()
        before = told(history)
        with history.trial():
            change(history)
            self.assertEqual(history, changed())
            self.assertEqual(told(history), told(changed()))
        self.check(history, before)

    def test_nothing_done(self):
        history = some_history()
        with history.trial() as trial:
            self.assertIsNot(trial, None)
        self.assertEqual(history, some_history())

    def test_an_error_goes_on(self):
        for keep in (False, True):
            history = some_history()
            before = told(history)
            error = Refused()
            with self.assertRaises(Refused) as caught:
                with history.trial() as trial:
                    change(history)
                    if keep:
                        trial.keep()
                    raise error
            self.assertIs(caught.exception, error)
            self.check(history, before)

    def test_errors_of_every_kind(self):
        for kind in (Refused, ValueError, KeyError, StopIteration, KeyboardInterrupt, SystemExit, GeneratorExit):
            history = some_history()
            with self.assertRaises(kind):
                with history.trial() as trial:
                    change(history)
                    trial.keep()
                    raise kind()
            self.assertEqual(history, some_history())

    def test_an_error_of_the_history(self):
        history = some_history()
        with self.assertRaises(BadTable):
            with history.trial() as trial:
                trial.keep()
                history.add(THREE)
                history.add(None)
        self.assertEqual(history, some_history())

    def test_an_error_that_the_block_catches(self):
        history = some_history()
        with history.trial() as trial:
            history.add(THREE)
            with self.assertRaises(BadTable):
                history.add(None)
            trial.keep()
        self.assertEqual(history.last, 2)

    def test_left_early(self):
        history = some_history()

        def leave(keep):
            with history.trial() as trial:
                history.add(THREE)
                if keep:
                    trial.keep()
                return history.last

        self.assertEqual(leave(False), 2)
        self.assertEqual(history, some_history())
        self.assertEqual(leave(True), 2)
        self.assertEqual(history.last, 2)
        for _ in range(3):
            with history.trial():
                history.add(ONE)
                break
        self.assertEqual(history.last, 2)

    def test_sayings_are_numbered_as_without_it(self):
        one, other = some_history(), some_history()
        with one.trial():
            self.assertEqual(one.say(1, "row", 0, 1, True), 2)
            self.assertEqual(one.say(1, "row", 0, 1, True), 3)
        for history in (one, other):
            self.assertEqual(history.say(1, "row", 0, 1, True), 2)
        self.assertEqual(one, other)
        self.assertEqual(one.sayings, other.sayings)

    def test_a_saying_taken_back_stands_again(self):
        history = some_history()
        with history.trial():
            history.unsay(1)
            self.assertEqual(history.sayings, ())
        self.assertEqual(history.sayings, ((1, 1, "row", 1, 0, True),))
        history.unsay(1)

    def test_asked_within_and_behind(self):
        history = History(ONE)
        history.add(TWO)
        before = history.comparison(1).partners("row", 0)
        with history.trial():
            history.say(1, "row", 0, None, True)
            self.assertEqual(history.comparison(1).partners("row", 0), (None,))
            history.add(ONE)
            self.assertEqual(history.fates("row", 1, 0, 2), (1,))
        self.assertEqual(history.comparison(1).partners("row", 0), before)
        history.add(THREE)
        # The step to version 2 is another one than it was in the trial.
        self.assertEqual(history.comparison(2).other, THREE)
        self.assertEqual(history.fates("row", 1, 0, 2), tuple(by_hand_partners(TWO, THREE)))

    def test_contradiction_behind_it(self):
        history = some_history()
        with history.trial():
            history.say(1, "row", 0, 1, True)
        history.say(1, "row", 0, 1, False)
        with self.assertRaises(Contradiction) as caught:
            history.say(1, "row", 0, 1, True)
        self.assertEqual(caught.exception.numbers, (2, 3))


def by_hand_partners(one, other):
    """Return what became of row 0 in all best alignments."""
    found = {by_hand.answer(alignment, ("row", 0)) for alignment in by_hand.best(one, other, Costs(), ())[1]}
    return sorted(found - {None}) + [None] * (None in found)


class Kept(unittest.TestCase):
    def test_late(self):
        history = some_history()
        with history.trial() as trial:
            change(history)
            self.assertIs(trial.keep(), None)
        self.assertEqual(history, changed())
        self.assertEqual(told(history), told(changed()))

    def test_early(self):
        history = some_history()
        with history.trial() as trial:
            trial.keep()
            change(history)
        self.assertEqual(history, changed())

    def test_twice(self):
        history = some_history()
        with history.trial() as trial:
            trial.keep()
            change(history)
            trial.keep()
        self.assertEqual(history, changed())

    def test_behind_the_block_it_is_too_late(self):
        history = some_history()
        with history.trial() as trial:
            change(history)
        trial.keep()
        self.assertEqual(history, some_history())
        with history.trial():
            change(history)
        self.assertEqual(history, some_history())

    def test_ahead_of_the_block_it_is_too_early(self):
        history = some_history()
        trial = history.trial()
        trial.keep()
        with trial:
            change(history)
        self.assertEqual(history, some_history())

    def test_what_the_block_began_with(self):
        history = some_history()
        trial = history.trial()
        history.add(TWO)
        with trial:
            history.add(THREE)
        self.assertEqual(history.last, 2)

    def test_numbers_go_on(self):
        history = some_history()
        with history.trial() as trial:
            history.say(1, "row", 0, 1, True)
            trial.keep()
        self.assertEqual(history.say(1, "row", 0, 1, True), 3)


class Within(unittest.TestCase):
    def test_what_stays_of_two(self):
        for outer in (False, True):
            for inner in (False, True):
                history = some_history()
                with history.trial() as first:
                    history.add(THREE)
                    with history.trial() as second:
                        history.add(ONE)
                        history.say(3, "row", 0, 0, True)
                        if inner:
                            second.keep()
                    self.assertEqual(history.last, 3 if inner else 2)
                    if outer:
                        first.keep()
                expected = some_history()
                if outer:
                    expected.add(THREE)
                    if inner:
                        expected.add(ONE)
                        expected.say(3, "row", 0, 0, True)
                self.assertEqual(history, expected)

    def test_the_outer_one_is_kept_within_the_inner_one(self):
        history = some_history()
        with history.trial() as first:
            history.add(THREE)
            with history.trial():
                history.add(ONE)
                first.keep()
        self.assertEqual(history.last, 2)

    def test_an_error_of_the_inner_one_that_the_outer_one_catches(self):
        history = some_history()
        with history.trial() as first:
            history.add(THREE)
            with self.assertRaises(Refused):
                with history.trial() as second:
                    second.keep()
                    history.add(ONE)
                    raise Refused()
            first.keep()
        self.assertEqual(history.last, 2)

    def nested(self, history, many, kept):
        """Add a version in each of so many trials, one within another, and return how many versions are left."""
        if many > 0:
            with history.trial() as trial:
                history.add(ONE)
                if many in kept:
                    trial.keep()
                self.nested(history, many - 1, kept)

    def test_four_deep(self):
        for kept, last in (((), 0), ((1, 2, 3, 4), 4), ((1, 2, 3), 0), ((2, 3, 4), 3), ((4,), 1), ((4, 3, 1), 2)):
            history = History(ONE)
            self.nested(history, 4, kept)
            self.assertEqual(history.last, last)

    def test_a_fifth(self):
        history = History(ONE)
        with self.assertRaises(TooMany) as caught:
            self.nested(history, 5, (1, 2, 3, 4, 5))
        self.assertEqual(caught.exception.limit, 4)
        self.assertEqual(history, History(ONE))
        # It does not count, as it did not begin.
        self.nested(history, 4, (1, 2, 3, 4))
        self.assertEqual(history.last, 4)

    def test_a_fifth_behind_many(self):
        for kept in ((), (1, 2, 3, 4)):
            history = History(ONE)
            for _ in range(3):
                if history.last < 8:
                    self.nested(history, 4, kept)
                with self.assertRaises(Refused):
                    with history.trial():
                        raise Refused()
            with history.trial(), history.trial(), history.trial(), history.trial():
                with self.assertRaises(TooMany) as caught:
                    history.tried(lambda trial: None)
            self.assertEqual(caught.exception.limit, 4)

    def test_a_fifth_that_is_caught(self):
        history = History(ONE)
        with history.trial() as first, history.trial() as second, history.trial() as third, history.trial() as fourth:
            for _ in range(2):
                with self.assertRaises(TooMany):
                    with history.trial():
                        raise Refused()
                with self.assertRaises(TooMany):
                    history.tried(lambda trial: 1)
            history.add(TWO)
            for trial in (first, second, third, fourth):
                trial.keep()
        self.assertEqual(history.last, 1)

    def test_one_behind_another(self):
        history = History(ONE)
        for number in range(9):
            with history.trial() as trial:
                history.add(ONE)
                if number % 2:
                    trial.keep()
        self.assertEqual(history.last, 4)

    def test_another_history_has_its_own(self):
        one, other = History(ONE), History(ONE)
        with one.trial(), one.trial(), one.trial(), one.trial():
            one.add(TWO)
            with other.trial(), other.trial(), other.trial(), other.trial() as last:
                other.add(THREE)
                last.keep()
        self.assertEqual((one, other), (History(ONE), History(ONE)))

    def test_a_trial_of_another_history_leaves_this_one_alone(self):
        one, other = History(ONE), History(ONE)
        with one.trial():
            one.add(TWO)
            other.add(THREE)
        self.assertEqual((one.last, other.last), (0, 1))


class Tried(unittest.TestCase):
    def test_it_returns_what_the_function_returns(self):
        history = some_history()
        value = [1, (2,), None]
        self.assertIs(history.tried(lambda trial: value), value)
        self.assertIs(history.tried(lambda trial: None), None)
        self.assertEqual(history.tried(deed=lambda trial: history.add(THREE)), 2)
        self.assertEqual(history, some_history())

    def test_kept(self):
        history = some_history()

        def deed(trial):
            change(history)
            trial.keep()
            return history.last

        self.assertEqual(history.tried(deed), 2)
        self.assertEqual(history, changed())

    def test_kept_early(self):
        history = some_history()
        history.tried(lambda trial: [trial.keep(), change(history)])
        self.assertEqual(history, changed())

    def test_an_error(self):
        history = some_history()
        error = Refused()

        def deed(trial):
            trial.keep()
            change(history)
            raise error

        with self.assertRaises(Refused) as caught:
            history.tried(deed)
        self.assertIs(caught.exception, error)
        self.assertEqual(history, some_history())

    def test_one_within_another(self):
        history = History(ONE)

        def inner(trial):
            trial.keep()
            return history.add(TWO)

        def outer(trial):
            return [history.add(ONE), history.tried(inner), history.last]

        self.assertEqual(history.tried(outer), [1, 2, 2])
        self.assertEqual(history, History(ONE))

    def test_a_fifth(self):
        history = History(ONE)
        calls = []

        def deed(trial):
            calls.append(len(calls))
            trial.keep()
            history.add(ONE)
            return history.tried(deed)

        with self.assertRaises(TooMany) as caught:
            history.tried(deed)
        self.assertEqual(caught.exception.limit, 4)
        self.assertEqual(calls, [0, 1, 2, 3])
        self.assertEqual(history, History(ONE))


class WhatWasToldStays(unittest.TestCase):
    def test_comparisons_merges_and_tables(self):
        history = some_history()
        with history.trial():
            change(history)
            comparison, version = history.comparison(2), history.version(2)
            merged = merge(history.version(0), history.version(1), ONE, history.costs)
            before = [comparison.cost, comparison.how_many(), comparison.best(), merged.outcomes(0), merged.columns]
        after = [comparison.cost, comparison.how_many(), comparison.best(), merged.outcomes(0), merged.columns]
        self.assertEqual(after, before)
        self.assertEqual(version, THREE)
        self.assertEqual((comparison.one, comparison.other), (TWO, THREE))

    def test_those_from_before(self):
        history = some_history()
        comparison = history.comparison(1)
        before = [comparison.cost, comparison.how_many(), comparison.partners("row", 0)]
        with history.trial() as trial:
            change(history)
            trial.keep()
        self.assertEqual([comparison.cost, comparison.how_many(), comparison.partners("row", 0)], before)


if __name__ == "__main__":
    unittest.main()
