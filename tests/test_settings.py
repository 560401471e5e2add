"""Section 14: since when a cell has its value, and evidence for it."""

import unittest

import by_hand
import by_hand_courses
from by_hand_courses import shows_may, shows_never
from samples import any_values
from tableheld.costs import Costs
from tableheld.errors import NoPlace, NoVersion
from tableheld.history import History, shows_track
from tableheld.tables import Table

SHORT = [by_hand_courses.some_history(seed) for seed in range(90)]


def cells(history):
    """Return (version, i, c) for all cells of all versions."""
    return [
        (version, i, c)
        for version in range(history.last + 1)
        for i in range(len(history.version(version).rows))
        for c in range(len(history.version(version).columns))
    ]


def exchanged():
    """Return the history of the document: rows and columns may be exchanged, but not in every combination."""
    history = History(Table(("a", "b"), ((1, 2), (2, 1))), Costs(move=2))
    history.add(Table(("b", "a"), ((1, 2), (2, 1))))
    history.add(Table(("b", "a"), ((1, 7), (2, 1))))
    return history


def expected(history, best, version, i, c, setting, value):
    """Tell by hand whether evidence of the right form shows anything of a setting."""
    return (shows_may if value[0] == "may" else shows_never)(history, best, version, i, c, setting, value[1])


class Settings(unittest.TestCase):
    def test_beside_all_courses(self):
        lengths = set()
        for history in SHORT:
            courses = by_hand_courses.all_courses(history)
            for version, i, c in cells(history):
                found = by_hand_courses.settings(history, courses, version, i, c)
                self.assertEqual(history.settings(version, i, c), found)
                lengths.add(len(found))
        self.assertLessEqual({1, 2, 3}, lengths)

    def test_not_in_every_combination(self):
        history = exchanged()
        self.assertEqual(history.comparison(1).partners("row", 0), (0, 1))
        self.assertEqual(history.comparison(1).partners("column", 0), (0, 1))
        self.assertEqual([history.settings(1, i, c) for i in (0, 1) for c in (0, 1)], [(0,)] * 4)
        self.assertEqual([history.settings(2, i, c) for i in (0, 1) for c in (0, 1)], [(0,), (2,), (0,), (0,)])

    def test_version_0(self):
        history = exchanged()
        self.assertEqual(history.settings(0, 1, 1), (0,))

    def test_a_row_that_came(self):
        history = History(Table(("a",), ()))
        history.add(Table(("a",), ((1,),)))
        history.add(Table(("a",), ((1,),)))
        self.assertEqual(history.settings(2, 0, 0), (1,))

    def test_a_column_that_came(self):
        history = History(Table(("a",), ((1,),)))
        history.add(Table(("a", "b"), ((1, None),)))
        self.assertEqual([history.settings(1, 0, 0), history.settings(1, 0, 1)], [(0,), (1,)])

    def test_a_value_that_comes_again(self):
        history = History(Table(("a",), ((1,),)))
        for cell in (2, 1, 1, "x", "x", None, None):
            history.add(Table(("a",), ((cell,),)))
        self.assertEqual([history.settings(v, 0, 0) for v in range(8)], [
            (0,), (1,), (2,), (2,), (4,), (4,), (6,), (6,),
        ])

    def test_several(self):
        history = History(Table(("a",), ((1,),)))
        history.add(Table(("a",), ((1,), (1,))))
        history.add(Table(("a",), ((1,), (1,), (1,))))
        self.assertEqual(history.settings(2, 0, 0), (0, 1, 2))
        history.say(1, "row", 0, 0, True)
        history.say(2, "row", 0, 0, True)
        self.assertEqual([history.settings(2, i, 0) for i in range(3)], [(0,), (1, 2), (1, 2)])


class Tracks(unittest.TestCase):
    def test_taken_for_the_setting_and_for_no_other_one(self):
        numbers = {"may": 0, "never": 0}
        for history in SHORT:
            best = by_hand_courses.best_of_steps(history)
            for version, i, c in cells(history):
                settings = history.settings(version, i, c)
                for setting in range(version + 1):
                    track = history.track(version, i, c, setting)
                    self.assertEqual(track[0], "may" if setting in settings else "never")
                    self.assertTrue(expected(history, best, version, i, c, setting, track))
                    for other in range(version + 1):
                        self.assertIs(shows_track(history, version, i, c, other, track), other == setting)
                    numbers[track[0]] += 1
        self.assertGreater(min(numbers.values()), 100)

    def test_taken_for_no_cell_that_it_does_not_show(self):
        for history in SHORT[:40]:
            best = by_hand_courses.best_of_steps(history)
            for version, i, c in cells(history):
                track = history.track(version, i, c, version)
                for other in cells(history):
                    for setting in range(other[0] + 1):
                        found = shows_track(history, *other, setting, track)
                        if other[0] == version:
                            self.assertIs(found, expected(history, best, *other, setting, track))

    def test_version_0(self):
        history = exchanged()
        self.assertEqual(history.track(0, 0, 1, 0), ("may", ()))
        self.assertTrue(shows_track(history, 0, 0, 1, 0, ("may", ())))
        for value in (
            ("may", ((((0, 0),), ()),)), ("never", ()), ("never", ((),)), ("never", (((0, 1),),)),
            ("never", (((0, 1),), ())),
        ):
            self.assertFalse(shows_track(history, 0, 0, 1, 0, value))

    def test_how_many_parts(self):
        history = exchanged()
        self.assertEqual([len(history.track(2, 0, 0, setting)[1]) for setting in (0, 1, 2)], [2, 2, 1])
        self.assertEqual([len(history.track(2, 0, 1, setting)[1]) for setting in (0, 1, 2)], [3, 2, 1])

    def test_own_evidence(self):
        history = exchanged()
        # Lists may have more than what leads to the cell, as long as nothing in the last one speaks against it.
        self.assertTrue(shows_track(history, 1, 0, 0, 1, ("never", (((0, 0), (0, 1), (1, 0), (1, 1)),))))
        self.assertFalse(shows_track(history, 2, 0, 0, 2, ("never", (((0, 0), (0, 1), (1, 0), (1, 1)),))))
        self.assertTrue(shows_track(history, 2, 0, 0, 2, ("never", (((0, 0), (1, 0), (1, 1)),))))
        by_names = (((0, 1), (1, 0)), ((0, 1), (1, 0)))
        by_places = (((0, 0), (1, 1)), ((0, 0), (1, 1)))
        for alignment in (by_names, by_places):
            self.assertTrue(history.comparison(1).is_best(alignment))
            self.assertTrue(shows_track(history, 1, 0, 0, 0, ("may", (alignment,))))
        self.assertFalse(shows_track(history, 1, 0, 0, 0, ("may", ((by_names[0], by_places[1]),))))


class SpoiltTracks(unittest.TestCase):
    """Evidence that is changed in one part is taken only where it still is evidence."""

    def changed_alignments(self, history, version, alignments):
        for at in range(len(alignments)):
            yield (*alignments[:at], *alignments[at + 1:])
            yield (*alignments[:at], alignments[at], *alignments[at:])
            one, other = history.version(version - at - 1), history.version(version - at)
            for found in by_hand.alignments(one, other)[::3]:
                yield (*alignments[:at], found, *alignments[at + 1:])
        yield (*alignments, ((), ()))

    def changed_lists(self, lists):
        for at, known in enumerate(lists):
            yield (*lists[:at], *lists[at + 1:])
            yield (*lists[:at], known, *lists[at:])
            for cell in known:
                yield (*lists[:at], tuple([other for other in known if other != cell]), *lists[at + 1:])
                yield (*lists[:at], tuple(sorted([*known, cell])), *lists[at + 1:])
            yield (*lists[:at], known[::-1], *lists[at + 1:])
            for row in range(-1, 4):
                for column in range(-1, 3):
                    if (row, column) not in known:
                        yield (*lists[:at], tuple(sorted([*known, (row, column)])), *lists[at + 1:])
        yield (*lists, ())

    def test_in_one_part(self):
        numbers = {True: 0, False: 0}
        for history in SHORT[:60]:
            best = by_hand_courses.best_of_steps(history)
            for version, i, c in cells(history)[::2]:
                for setting in range(version + 1):
                    word, parts = history.track(version, i, c, setting)
                    if word == "may":
                        spoilt = self.changed_alignments(history, version, parts)
                    else:
                        spoilt = self.changed_lists(parts)
                    for found in spoilt:
                        taken = expected(history, best, version, i, c, setting, (word, found))
                        self.assertIs(shows_track(history, version, i, c, setting, (word, found)), taken)
                        numbers[taken] += 1
        self.assertGreater(min(numbers.values()), 1000)

    def test_the_other_word(self):
        history = exchanged()
        for setting, c in ((0, 0), (1, 0), (2, 0), (0, 1), (1, 1), (2, 1)):
            word, parts = history.track(2, 0, c, setting)
            other = "never" if word == "may" else "may"
            self.assertFalse(shows_track(history, 2, 0, c, setting, (other, parts)))

    def test_of_another_form(self):
        history = exchanged()
        for setting, c in ((0, 0), (1, 0), (2, 1), (0, 1)):
            word, parts = history.track(2, 0, c, setting)
            self.assertTrue(shows_track(history, 2, 0, c, setting, (word, parts)))
            for value in (
                [word, parts], (word, list(parts)), (word,), (word, parts, ()), (parts, word), (word.upper(), parts),
                (word, tuple([list(part) for part in parts])), (word, (*parts[:-1], None)), (word, None), parts,
                (word, tuple([tuple([list(pair) for pair in part]) for part in parts])),
            ):
                self.assertFalse(shows_track(history, 2, 0, c, setting, value))

    def test_bools_are_no_places(self):
        history = exchanged()
        self.assertTrue(shows_track(history, 1, 0, 0, 1, ("never", (((0, 0),),))))
        self.assertTrue(shows_track(history, 1, 1, 0, 1, ("never", (((1, 0),),))))
        for member in ((False, 0), (0, False)):
            self.assertFalse(shows_track(history, 1, 0, 0, 1, ("never", ((member,),))))
        self.assertFalse(shows_track(history, 1, 1, 0, 1, ("never", (((True, 0),),))))
        alignment = (((0, 0), (1, 1)), ((0, 0), (1, True)))
        self.assertFalse(shows_track(history, 1, 0, 0, 0, ("may", (alignment,))))


class AnyValues(unittest.TestCase):
    def setUp(self):
        self.history = exchanged()
        self.ways = (
            lambda version, i, c: self.history.settings(version, i, c),
            lambda version, i, c: self.history.track(version, i, c, -1),
            lambda version, i, c: shows_track(self.history, version, i, c, -1, ()),
        )

    def check(self, error, value, call):
        with self.assertRaises(error) as caught:
            call()
        self.assertIs(caught.exception.value, value)

    def test_version(self):
        for value in [*any_values(), 3]:
            if value not in (0, 1, 2) or isinstance(value, bool):
                for way in self.ways:
                    self.check(NoVersion, value, lambda: way(value, value, value))

    def test_places(self):
        for value in [*any_values(), 2]:
            if value not in (0, 1) or isinstance(value, bool):
                for way in self.ways:
                    self.check(NoPlace, value, lambda: way(1, value, [9]))
                    self.check(NoPlace, value, lambda: way(1, 0, value))

    def test_places_are_those_of_the_version(self):
        history = History(Table(("a",), ((1,),)))
        history.add(Table(("a", "b"), ((1, 1), (2, 2), (3, 3))))
        self.assertEqual(history.settings(1, 2, 1), (1,))
        self.check(NoPlace, 1, lambda: history.settings(0, 1, 0))
        self.check(NoPlace, 1, lambda: history.settings(0, 0, 1))
        self.check(NoPlace, 2, lambda: history.settings(1, 0, 2))

    def test_setting(self):
        for value in [*any_values(), 2]:
            if value not in (0, 1) or isinstance(value, bool):
                self.check(NoVersion, value, lambda: self.history.track(1, 0, 0, value))
                self.check(NoVersion, value, lambda: shows_track(self.history, 1, 0, 0, value, ()))

    def test_evidence(self):
        for value in any_values():
            for given in (
                value, (value, ()), ("may", value), ("may", (value,)), ("never", value), ("never", (value,)),
                ("may", (value, value)), ("never", (value, value)), ("never", ((value,),)), ("never", (((0, value),),)),
                ("never", (((0, 0), value),)), ("never", (((value, 0),),)), ("may", (((), value),)),
                ("may", ((value, ()),)),
            ):
                if given != ("never", (((0, 0),),)):
                    for setting in (0, 1):
                        self.assertIs(shows_track(self.history, 1, 0, 0, setting, given), False)


if __name__ == "__main__":
    unittest.main()
