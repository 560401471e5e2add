"""Section 3: what is promised over the whole program."""

import unittest

import by_hand
import by_hand_courses
import by_hand_merges
from tableheld.comparing import compare, shows_reason
from tableheld.errors import Doubt, HeldError
from tableheld.history import History, shows_track
from tableheld.leasts import least, shows_least
from tableheld.merging import merge, shows_doubt
from tableheld.tables import Table
from tableheld.texts import read_history, show_history


def claims_of(history):
    """Return (step, claim) for all claims about all steps."""
    return [
        (step, claim)
        for step in range(1, history.last + 1)
        for claim in by_hand.claims(history.version(step - 1), history.version(step))
    ]


def things(history):
    return [
        (kind, version, i)
        for version in range(history.last + 1)
        for kind, many in (
            ("column", len(history.version(version).columns)), ("row", len(history.version(version).rows)),
        )
        for i in range(many)
    ]


def told(history):
    """Return all that a history tells of its versions."""
    last, found = history.last, []
    for step, claim in claims_of(history):
        comparison = history.comparison(step)
        found.append((comparison.cost, comparison.how_many(), comparison.verdict(*claim), comparison.reason(*claim)))
    for kind, version, i in things(history):
        found.append(history.births(kind, version, i))
        found.extend([history.origins(kind, version, i, earlier) for earlier in range(version + 1)])
        found.extend([history.fates(kind, version, i, later) for later in range(version, last + 1)])
        if kind == "row":
            for c in range(len(history.version(version).columns)):
                found.append(history.settings(version, i, c))
                found.extend([history.track(version, i, c, setting) for setting in range(version + 1)])
    return found


class NothingThatSomeBestAlignmentDenies(unittest.TestCase):
    """(a) What is told is so in all best alignments, and what is so in all of them is told."""

    def test_verdicts(self):
        for seed in range(40):
            history = by_hand_courses.some_history(seed)
            best = by_hand_courses.best_of_steps(history)
            for step, claim in claims_of(history):
                true_of = [by_hand.is_true(alignment, *claim) for alignment in best[step - 1]]
                expected = "always" if all(true_of) else "sometimes" if any(true_of) else "never"
                self.assertEqual(history.comparison(step).verdict(*claim), expected)

    def test_a_single_birth_or_setting_is_so_in_every_course(self):
        for seed in range(40):
            history = by_hand_courses.some_history(seed)
            courses = by_hand_courses.all_courses(history)
            for kind, version, i in things(history):
                births = {by_hand_courses.birth(course, kind, version, i) for course in courses}
                self.assertEqual(births, set(history.births(kind, version, i)))
                if kind == "row":
                    found = {
                        by_hand_courses.setting(history, course[:version][::-1], version, i, 0) for course in courses
                    }
                    self.assertEqual(found, set(history.settings(version, i, 0)))

    def test_merged_rows_are_those_of_every_joint_choice(self):
        merged_tables = 0
        for seed in range(300):
            sides = by_hand_merges.some_sides(seed)
            if [] in sides.best or len(sides.best[0]) * len(sides.best[1]) > 300:
                continue
            try:
                merged = merge(
                    sides.base, *sides.tables, sides.costs,
                    for_ours=sides.conditions[0], for_theirs=sides.conditions[1],
                )
                table = merged.table()
            except HeldError:
                continue
            for joint in sides.joint_choices()[1]:
                self.assertEqual(tuple(sides.rows(joint)), table.rows)
            merged_tables += 1
        self.assertGreater(merged_tables, 100)


class Bounds(unittest.TestCase):
    """(b) No alignment costs less than told; bounds show it."""

    def test_of_histories(self):
        for seed in range(30):
            history = by_hand_courses.some_history(seed)
            for step in range(1, history.last + 1):
                one, other = history.version(step - 1), history.version(step)
                conditions = tuple([saying[2:] for saying in history.sayings if saying[1] == step])
                cost, alignment, bounds = least(one, other, history.costs, conditions)
                self.assertEqual(history.comparison(step).cost, cost)
                self.assertTrue(by_hand.keeps(alignment, conditions))
                self.assertTrue(shows_least(one, other, history.costs, conditions, cost, bounds))
                self.assertTrue(by_hand.are_bounds(one, other, history.costs, conditions, cost, bounds))


class Evidence(unittest.TestCase):
    """(c) What the functions that begin with shows accept is evidence, and what is returned as evidence is accepted."""

    def test_evidence_of_a_history_that_was_read(self):
        for seed in range(30):
            history = by_hand_courses.some_history(seed)
            again = read_history(show_history(history))
            for step, claim in claims_of(history):
                reason = history.comparison(step).reason(*claim)
                self.assertTrue(shows_reason(again.comparison(step), *claim, reason))
            for kind, version, i in things(history):
                if kind == "row":
                    for setting in range(version + 1):
                        track = history.track(version, i, 0, setting)
                        self.assertTrue(shows_track(again, version, i, 0, setting, track))

    def test_evidence_of_other_sayings_is_not_taken(self):
        table = Table(("a",), ((1,), (1,)))
        history = History(table)
        history.add(table)
        track = ("may", ((((0, 0),), ((0, 0), (1, 1))),))
        self.assertTrue(shows_track(history, 1, 0, 0, 0, track))
        history.say(1, "row", 0, 0, False)
        self.assertFalse(shows_track(history, 1, 0, 0, 0, track))
        self.assertTrue(shows_track(history, 1, 0, 0, 0, history.track(1, 0, 0, 0)))
        history.unsay(0)
        self.assertTrue(shows_track(history, 1, 0, 0, 0, track))

    def test_doubt_of_another_merge_is_not_taken(self):
        base, ours, theirs = Table(("a",), ((1,),)), Table(("a",), ((2,),)), Table(("a",), ((3,),))
        history = History(base)
        history.add(ours)
        clash = merge(base, ours, theirs, history.costs)
        with self.assertRaises(Doubt):
            clash.table()
        self.assertTrue(shows_doubt(clash, clash.doubt()))
        self.assertFalse(shows_doubt(merge(base, ours, base, history.costs), clash.doubt()))


class Sequence(unittest.TestCase):
    """(d) What is told of versions hangs on tables, costs and sayings alone."""

    def sayings(self, history):
        """Return some sayings that can stand together, without numbers."""
        found = []
        with history.trial():
            for step, claim in claims_of(history)[::3]:
                if history.comparison(step).verdict(*claim) == "sometimes":
                    found.append((step, *claim, True))
                    history.say(*found[-1])
        return found

    def test_sequence_of_sayings(self):
        many = 0
        for seed in range(0, 90, 3):
            text = show_history(by_hand_courses.some_history(seed))
            one, other, third = [read_history(text) for _ in range(3)]
            sayings = self.sayings(one)
            many += len(sayings) > 1
            for saying in sayings:
                one.say(*saying)
            for saying in sayings[::-1]:
                other.say(*saying)
                other.unsay(other.say(*saying))
            told(third)
            for saying in sayings[1:] + sayings[:1]:
                third.say(*saying)
                third.comparison(1)
            self.assertEqual(told(one), told(other))
            self.assertEqual(told(one), told(third))
        self.assertGreater(many, 5)

    def test_sequence_of_costs_and_versions(self):
        for seed in range(10):
            one = by_hand_courses.some_history(seed * 3)
            costs = one.costs
            other = History(one.version(0))
            for version in range(1, one.last + 1):
                other.add(one.version(version))
                other.comparison(version)
            told(other)
            other.recost(costs)
            self.assertEqual(told(one), told(other))

    def test_a_question_changes_nothing(self):
        history = by_hand_courses.some_history(5)
        before, text = told(history), show_history(history)
        self.assertEqual(told(history), before)
        self.assertEqual(show_history(history), text)


class TrialsAndTexts(unittest.TestCase):
    """(e) A trial that is not kept leaves nothing; a history that is read back from its text tells the same."""

    def test_trials(self):
        for seed in range(20):
            history = by_hand_courses.some_history(seed)
            before = told(history), show_history(history)
            with history.trial():
                history.add(history.version(0))
                for step, claim in claims_of(history)[::4]:
                    if history.comparison(step).verdict(*claim) == "sometimes":
                        history.say(step, *claim, False)
                told(history)
            self.assertEqual((told(history), show_history(history)), before)

    def test_texts(self):
        for seed in range(20):
            history = by_hand_courses.some_history(seed)
            self.assertEqual(told(read_history(show_history(history))), told(history))

    def test_comparisons_are_those_of_compare(self):
        for seed in range(20):
            history = by_hand_courses.some_history(seed)
            for step in range(1, history.last + 1):
                conditions = tuple([saying[2:] for saying in history.sayings if saying[1] == step])
                one, other = history.version(step - 1), history.version(step)
                comparison = compare(one, other, history.costs, conditions)
                self.assertEqual(comparison.best(), history.comparison(step).best())
                self.assertEqual(comparison.how_many(), history.comparison(step).how_many())


if __name__ == "__main__":
    unittest.main()
