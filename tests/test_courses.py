"""Section 13: where columns and rows come from, what they become, and in which versions they stand first."""

import unittest

import by_hand_courses
from samples import any_values
from tableheld.errors import BadKind, NoPlace, NoVersion
from tableheld.history import History
from tableheld.tables import Table

SHORT = [by_hand_courses.some_history(seed) for seed in range(90)]


def things(history):
    """Return (kind, version, i) for all columns and rows of all versions."""
    found = []
    for version in range(history.last + 1):
        table = history.version(version)
        found.extend([("column", version, i) for i in range(len(table.columns))])
        found.extend([("row", version, i) for i in range(len(table.rows))])
    return found


def with_versions(*rows):
    """Return a history of tables with a single column."""
    tables = [Table(("a",), tuple([(cell,) for cell in cells])) for cells in rows]
    history = History(tables[0])
    for table in tables[1:]:
        history.add(table)
    return history


class BesideAllCourses(unittest.TestCase):
    def test_origins(self):
        lengths = set()
        for history in SHORT:
            courses = by_hand_courses.all_courses(history)
            for kind, version, i in things(history):
                for earlier in range(version + 1):
                    expected = by_hand_courses.origins(courses, kind, version, i, earlier)
                    self.assertEqual(history.origins(kind, version, i, earlier), expected)
                    lengths.add((len(expected), None in expected))
        self.assertLessEqual({(1, False), (1, True), (2, False), (2, True), (3, False), (3, True)}, lengths)

    def test_fates(self):
        lengths = set()
        for history in SHORT:
            courses = by_hand_courses.all_courses(history)
            for kind, version, i in things(history):
                for later in range(version, history.last + 1):
                    expected = by_hand_courses.fates(courses, kind, version, i, later)
                    self.assertEqual(history.fates(kind, version, i, later), expected)
                    lengths.add((len(expected), None in expected))
        self.assertLessEqual({(1, False), (1, True), (2, False), (2, True), (3, False), (3, True)}, lengths)

    def test_births(self):
        gaps = 0
        for history in SHORT:
            courses = by_hand_courses.all_courses(history)
            for kind, version, i in things(history):
                expected = by_hand_courses.births(courses, kind, version, i)
                self.assertEqual(history.births(kind, version, i), expected)
                gaps += any(expected[k] + 1 < expected[k + 1] for k in range(len(expected) - 1))
        self.assertGreater(gaps, 10)


class SomeHistories(unittest.TestCase):
    def test_a_version_itself(self):
        for history in SHORT[:20]:
            for kind, version, i in things(history):
                self.assertEqual(history.origins(kind, version, i, version), (i,))
                self.assertEqual(history.fates(kind, version, i, version), (i,))

    def test_version_0_alone(self):
        history = with_versions((1, 2))
        self.assertEqual(history.births("row", 0, 1), (0,))
        self.assertEqual(history.births("column", 0, 0), (0,))
        self.assertEqual(history.origins("row", 0, 1, 0), (1,))
        self.assertEqual(history.fates("row", 0, 1, 0), (1,))

    def test_births_with_a_gap(self):
        history = with_versions((1,), (2, 3), (2, 3), (3, 2, 3))
        self.assertEqual(history.births("row", 3, 0), (0, 1, 3))

    def test_no_birth_in_version_0(self):
        history = with_versions((), (1,), (1,), (1, 1))
        self.assertEqual(history.births("row", 3, 0), (1, 3))
        self.assertEqual(history.origins("row", 3, 0, 0), (None,))
        self.assertEqual(history.origins("row", 3, 0, 1), (0, None))

    def test_what_went_and_came_again_is_another_one(self):
        history = with_versions((1, 2), (1,), (1, 2))
        self.assertEqual(history.fates("row", 0, 1, 2), (None,))
        self.assertEqual(history.origins("row", 2, 1, 0), (None,))
        self.assertEqual(history.births("row", 2, 1), (2,))

    def test_sayings_are_kept(self):
        history = with_versions((1,), (2, 3), (2, 3))
        self.assertEqual(history.origins("row", 2, 0, 0), (0, None))
        history.say(1, "row", 0, 1, True)
        self.assertEqual(history.origins("row", 2, 0, 0), (None,))
        self.assertEqual(history.fates("row", 0, 0, 2), (1,))
        self.assertEqual(history.births("row", 2, 0), (1,))
        history.unsay(0)
        self.assertEqual(history.origins("row", 2, 0, 0), (0, None))

    def test_twelve_versions(self):
        history = with_versions(*[(1, 2, 1, 2, 1, 2) if k % 2 else (2, 1, 2, 1, 2, 1) for k in range(12)])
        self.assertEqual(history.origins("row", 11, 0, 10), (1, 3, 5))
        self.assertEqual(history.origins("row", 11, 0, 0), (1, 3, 5))
        self.assertEqual(history.fates("row", 0, 0, 11), (1, 3, 5))
        self.assertEqual(history.births("row", 11, 5), (0,))


class Errors(unittest.TestCase):
    """The first one that is due, with the very value."""

    def setUp(self):
        self.history = with_versions((1,), (2, 3), (2, 3))
        self.ways = (
            lambda kind, version, i: self.history.origins(kind, version, i, -1),
            lambda kind, version, i: self.history.fates(kind, version, i, 3),
            lambda kind, version, i: self.history.births(kind, version, i),
        )

    def check(self, error, value, call):
        with self.assertRaises(error) as caught:
            call()
        self.assertIs(caught.exception.value, value)

    def test_kind(self):
        for value in [*any_values(), "rows", "Row"]:
            for way in self.ways:
                self.check(BadKind, value, lambda: way(value, value, value))

    def test_version(self):
        for value in [*any_values(), 3]:
            if value not in (0, 1, 2) or isinstance(value, bool):
                for way in self.ways:
                    for kind in ("row", "column"):
                        self.check(NoVersion, value, lambda: way(kind, value, value))

    def test_place(self):
        for value in [*any_values(), 2]:
            if value not in (0, 1) or isinstance(value, bool):
                for way in self.ways:
                    self.check(NoPlace, value, lambda: way("row", 1, value))
        for way in self.ways:
            self.check(NoPlace, 1, lambda: way("row", 0, 1))
            self.check(NoPlace, 1, lambda: way("column", 1, 1))

    def test_earlier(self):
        for value in [*any_values(), 2]:
            if value not in (0, 1) or isinstance(value, bool):
                self.check(NoVersion, value, lambda: self.history.origins("row", 1, 0, value))
        self.check(NoVersion, 1, lambda: self.history.origins("row", 0, 0, 1))

    def test_later(self):
        for value in [*any_values(), 3]:
            if value not in (1, 2) or isinstance(value, bool):
                self.check(NoVersion, value, lambda: self.history.fates("row", 1, 0, value))
        self.check(NoVersion, 0, lambda: self.history.fates("row", 1, 0, 0))


if __name__ == "__main__":
    unittest.main()
