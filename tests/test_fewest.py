"""Section 11: the fewest questions."""

import unittest

import by_hand
from samples import any_values, nested
from tableheld.comparing import compare
from tableheld.costs import Costs
from tableheld.errors import BadAlignment, NotBest
from tableheld.tables import Table

ONE, OTHER = Table(("a",), ((1,), (2,))), Table(("a",), ((3,), (4,)))


class Examples(unittest.TestCase):
    def setUp(self):
        self.comparison = compare(ONE, OTHER, Costs())

    def test_one_question(self):
        self.assertEqual(self.comparison.fewest((((0, 0),), ((0, 0), (1, 1)))), (("row", 0),))

    def test_not_best(self):
        with self.assertRaises(NotBest):
            self.comparison.fewest((((0, 0),), ((0, 0),)))


class ByHand(unittest.TestCase):
    """Beside all sets of questions of small comparisons."""

    def test_every_best_alignment(self):
        sizes = set()
        for case in by_hand.cases():
            comparison = compare(*case.given)
            for alignment in case.best[:12]:
                with self.subTest(str(case), alignment=alignment):
                    expected = by_hand.fewest(case.one, alignment, case.best)
                    self.assertEqual(comparison.fewest(alignment), expected)
                    sizes.add(len(expected))
        self.assertGreaterEqual(sizes, {0, 1, 2, 3, 4})

    def test_they_leave_no_doubt(self):
        for case in by_hand.cases()[::4]:
            comparison = compare(*case.given)
            best = comparison.best()
            said = []
            for kind, i in comparison.fewest(best):
                said.append((kind, i, by_hand.answer(best, (kind, i)), True))
            closer = compare(case.one, case.other, case.costs, (*case.conditions, *said))
            self.assertEqual([closer.how_many(), closer.best()], [1, best])


class Fewest(unittest.TestCase):
    def check(self, expected, comparison, alignment):
        told = comparison.fewest(alignment)
        self.assertEqual(told, expected)
        self.assertEqual([type(told), *[type(question) for question in told]], [tuple] * (len(expected) + 1))

    def test_there_is_one_best_alignment(self):
        self.check((), compare(ONE, ONE, Costs()), (((0, 0),), ((0, 0), (1, 1))))
        self.check((), compare(ONE, OTHER, Costs(), (("row", 0, 0, False),)), (((0, 0),), ((0, 1), (1, 0))))
        self.check((), compare(Table(("a",), ()), Table(("b",), ()), Costs(column=1, name=3)), ((), ()))

    def test_all_rows_but_one(self):
        for many in (2, 3, 6):
            same = Table(("a",), ((1,),) * many)
            straight = (((0, 0),), tuple([(i, i) for i in range(many)]))
            self.check(tuple([("row", i) for i in range(many - 1)]), compare(same, same, Costs()), straight)

    def test_all_rows(self):
        # Where every pairing is a best one, each row that went may have been any of them.
        one, other = Table(("a",), ((1,),) * 6), Table(("a",), ((2,),) * 6)
        comparison = compare(one, other, Costs(cell=8))
        self.check(tuple([("row", i) for i in range(6)]), comparison, (((0, 0),), ()))
        self.check(tuple([("row", i) for i in range(6)]), comparison, (((0, 0),), tuple([(i, i) for i in range(6)])))

    def test_a_row_that_went_is_an_answer(self):
        comparison = compare(Table(("a",), ((1,), (1,), (1,))), Table(("a",), ((1,), (1,))), Costs())
        self.check((("row", 0), ("row", 1)), comparison, (((0, 0),), ((0, 0), (1, 1))))
        self.check((("row", 0), ("row", 1)), comparison, (((0, 0),), ((1, 0), (2, 1))))
        comparison = compare(Table(("a",), ((1,), (1,), (1,))), Table(("a",), ((1,),)), Costs())
        self.check((("row", 1),), comparison, (((0, 0),), ((1, 0),)))
        self.check((("row", 2),), comparison, (((0, 0),), ((2, 0),)))

    def test_columns_are_ahead_of_rows(self):
        one, other = Table(("a", "b"), ((1, 2), (2, 1))), Table(("b", "a"), ((1, 2), (2, 1)))
        comparison = compare(one, other, Costs(move=2))
        self.assertEqual(comparison.how_many(), 2)
        self.check((("column", 0),), comparison, (((0, 0), (1, 1)), ((0, 0), (1, 1))))
        self.check((("column", 0),), comparison, (((0, 1), (1, 0)), ((0, 1), (1, 0))))

    def test_columns_and_rows_together(self):
        same = ((7, 7), (7, 7))
        one, other = Table(("a", "b"), ((1, 2), (2, 1), *same)), Table(("b", "a"), ((1, 2), (2, 1), *same))
        comparison = compare(one, other, Costs(move=2))
        self.assertEqual(comparison.how_many(), 4)
        columns, rows = ((0, 0), (1, 1)), ((0, 0), (1, 1), (2, 2), (3, 3))
        self.check((("column", 0), ("row", 2)), comparison, (columns, rows))

    def test_fewer_questions_are_ahead_of_a_lesser_tuple(self):
        # Column 0 and row 1 together, or rows 0 and 1, would be the lesser tuple.
        one = Table(("a",), ((1,), (7,), (7,)))
        self.check((("row", 1),), compare(one, one, Costs()), (((0, 0),), ((0, 0), (1, 1), (2, 2))))
        self.check((("row", 1),), compare(one, one, Costs()), (((0, 0),), ((0, 0), (1, 2), (2, 1))))

    def test_conditions_count(self):
        same = Table(("a",), ((1,),) * 3)
        straight = (((0, 0),), ((0, 0), (1, 1), (2, 2)))
        self.check((("row", 0), ("row", 1)), compare(same, same, Costs()), straight)
        self.check((("row", 1),), compare(same, same, Costs(), (("row", 0, 0, True),)), straight)
        self.check((("row", 0),), compare(same, same, Costs(), (("row", 1, 1, True),)), straight)

    def test_three_columns_and_six_rows(self):
        one = Table(("a", "b", "c"), ((1, 1, 1),) * 6)
        comparison = compare(one, Table(("d", "e", "f"), ((1, 1, 1),) * 6), Costs(column=1, name=2))
        # A column that goes and one that comes cost as much as another name; one pair at least holds the rows.
        self.assertEqual(comparison.cost, 6)
        self.assertGreater(comparison.how_many(), 9 * 720)
        for alignment in (
            (((0, 0),), tuple([(i, i) for i in range(6)])),
            (((0, 0), (1, 1), (2, 2)), tuple([(i, 5 - i) for i in range(6)])),
        ):
            questions = tuple([("column", c) for c in range(3)] + [("row", i) for i in range(5)])
            self.check(questions, comparison, alignment)


class Errors(unittest.TestCase):
    def setUp(self):
        self.comparison = compare(ONE, OTHER, Costs())

    def check_bad(self, comparison, value):
        with self.assertRaises(BadAlignment) as caught:
            comparison.fewest(value)
        self.assertIs(type(caught.exception), BadAlignment)
        self.assertIs(caught.exception.value, value)

    def check_not_best(self, comparison, value):
        with self.assertRaises(NotBest) as caught:
            comparison.fewest(value)
        self.assertIs(type(caught.exception), NotBest)
        self.assertEqual(vars(caught.exception), {})

    def test_what_is_no_alignment(self):
        for value in (
            ((), ((0, 0),)), (((0, 0),), ((0, 0), (0, 1))), (((0, 0),), ((0, 0), (1, 2))),
            [((0, 0),), ((0, 0), (1, 1))],
            (((0, 0),), ((0, 0), (1, True))), (((0, False),), ((0, 0), (1, 1))), (((0, 0),), ((1, 1), (0, 0))),
            (((0, 0),), [(0, 0), (1, 1)]), (((0, 0),), ([0, 0], [1, 1])), (((0, 0),), ((0, 0), (1, 1)), ()),
        ):
            self.check_bad(self.comparison, value)

    def test_values_of_any_kind(self):
        for at, value in enumerate(any_values()):
            with self.subTest(at=at):
                self.check_bad(self.comparison, value)
                self.check_bad(self.comparison, (((0, 0),), (value,)))
        for shell in (tuple, list, dict):
            self.check_bad(self.comparison, nested(shell, 20))

    def test_alignments_that_cost_more(self):
        for value in (((), ()), (((0, 0),), ()), (((0, 0),), ((1, 0),)), (((0, 0),), ((0, 1),))):
            self.check_not_best(self.comparison, value)

    def test_alignments_of_this_cost_that_do_not_keep_the_conditions(self):
        comparison = compare(ONE, OTHER, Costs(), (("row", 0, 0, False),))
        self.check_not_best(comparison, (((0, 0),), ((0, 0), (1, 1))))

    def test_cheaper_alignments_that_do_not_keep_the_conditions(self):
        comparison = compare(ONE, ONE, Costs(), (("row", 0, 0, False),))
        self.check_not_best(comparison, (((0, 0),), ((0, 0), (1, 1))))

    def test_every_alignment_that_is_not_best(self):
        for case in by_hand.cases()[::5]:
            comparison = compare(*case.given)
            for alignment in by_hand.alignments(case.one, case.other)[::7]:
                if alignment in case.best:
                    self.assertIs(type(comparison.fewest(alignment)), tuple)
                else:
                    self.check_not_best(comparison, alignment)

    def test_no_alignment_comes_ahead_of_not_best(self):
        # Each of these would cost more and break the condition, if it were an alignment.
        comparison = compare(ONE, OTHER, Costs(), (("row", 0, 0, False),))
        for value in ((((0, 0),), ((0, 0), (2, 1))), ((), ((0, 0),)), (((0, 0),), ((0, 0), (0, 0)))):
            self.check_bad(comparison, value)


if __name__ == "__main__":
    unittest.main()
