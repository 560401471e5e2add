"""Section 6: what an alignment is, and what it costs."""

import unittest
from itertools import permutations, product

import by_hand
from samples import any_values, nested
from tableheld.alignments import cost_of, is_alignment
from tableheld.costs import Costs
from tableheld.errors import BadAlignment, HeldError
from tableheld.tables import Table

# All parts of a cost can be told from a sum of these.
APART = Costs(cell=1, row=7, column=50, name=20, move=3)


def table(width, many, names="abc"):
    """Return a table in which all cells are different."""
    return Table(tuple(names[:width]), tuple([tuple(range(10 * i, 10 * i + width)) for i in range(many)]))


class Examples(unittest.TestCase):
    def setUp(self):
        self.one = Table(("a", "b"), ((1, 2), (3, 4)))
        self.other = Table(("b", "c"), ((2, 1), (5, 3)))

    def test_costs(self):
        one, other = self.one, self.other
        self.assertEqual(
            [
                cost_of(one, other, Costs(), (((0, 1), (1, 0)), ((0, 0), (1, 1)))),
                cost_of(one, other, Costs(), (((1, 0),), ((0, 0),))),
                cost_of(one, other, Costs(), ((), ())),
            ],
            [5, 18, 36],
        )

    def test_what_is_one(self):
        one, other = self.one, self.other
        self.assertEqual(
            [
                is_alignment(one, other, ((), ((0, 0),))),
                is_alignment(one, other, (((0, 0),), ((1, 0),))),
                is_alignment(one, other, (((0, 0), (1, 0)), ())),
            ],
            [False, True, False],
        )


class WhatIsOne(unittest.TestCase):
    def check(self, one, other, value):
        self.assertIs(is_alignment(one, other, value), True)
        self.assertEqual(cost_of(one, other, Costs(), value), by_hand.cost(one, other, Costs(), value))

    def test_all_that_small_tables_have(self):
        for width, many, other_width, other_many in (
            (1, 3, 1, 2), (2, 2, 1, 3), (2, 2, 3, 2), (3, 2, 3, 2), (3, 1, 2, 0),
        ):
            one, other = table(width, many), table(other_width, other_many, "bca")
            for value in by_hand.alignments(one, other):
                with self.subTest(value=value):
                    self.check(one, other, value)

    def test_none_are_pairs(self):
        for width, many in product((1, 2, 3), (0, 1, 6)):
            for other_width, other_many in product((1, 2, 3), (0, 1, 6)):
                self.check(table(width, many), table(other_width, other_many), ((), ()))
                self.check(table(width, many), table(other_width, other_many), (((0, 0),), ()))

    def test_as_many_pairs_as_can_be(self):
        for width, many in product((1, 2, 3), range(7)):
            straight = (tuple([(c, c) for c in range(width)]), tuple([(i, i) for i in range(many)]))
            turned = (
                tuple([(c, width - 1 - c) for c in range(width)]), tuple([(i, many - 1 - i) for i in range(many)]),
            )
            for other_width, other_many in ((width, many), (3, 6)):
                self.check(table(width, many), table(other_width, other_many), straight)
                self.check(table(other_width, other_many), table(width, many), straight)
                self.check(table(width, many), table(other_width, other_many), turned)

    def test_the_last_places(self):
        self.check(table(3, 6), table(2, 4), (((2, 1),), ((5, 3),)))
        self.check(table(2, 4), table(3, 6), (((1, 2),), ((3, 5),)))

    def test_seconds_need_not_ascend(self):
        self.check(table(3, 6), table(3, 6), (((0, 2), (1, 0), (2, 1)), ((0, 5), (2, 3), (3, 4), (5, 0))))


class WhatIsNone(unittest.TestCase):
    def setUp(self):
        self.one, self.other = table(2, 3), table(3, 4)

    def check(self, value):
        self.assertIs(is_alignment(self.one, self.other, value), False)
        with self.assertRaises(BadAlignment) as caught:
            cost_of(self.one, self.other, Costs(), value)
        self.assertIs(type(caught.exception), BadAlignment)
        self.assertIs(caught.exception.value, value)

    def check_pairs(self, pairs):
        """The pairs are wrong as those of columns, of rows, and of both."""
        for value in ((pairs, ()), (((0, 0),), pairs), (pairs, pairs), (pairs, ((0, 0),))):
            with self.subTest(value=value):
                self.check(value)

    def test_what_is_tested_here_is_one_without_the_fault(self):
        for pairs in ((), ((0, 0),), ((1, 2),), ((0, 1), (1, 0)), ((0, 2), (1, 1))):
            self.assertIs(is_alignment(self.one, self.other, (pairs, ())), True)
            self.assertIs(is_alignment(self.one, self.other, (((0, 0),), pairs)), True)

    def test_pairs_that_do_not_ascend(self):
        self.check_pairs(((1, 0), (0, 1)))
        self.check_pairs(((1, 1), (0, 0)))
        self.check((((0, 0),), ((0, 0), (2, 1), (1, 2))))
        self.check((((0, 0),), ((2, 2), (0, 0), (1, 1))))

    def test_a_pair_twice(self):
        self.check_pairs(((0, 0), (0, 0)))
        self.check_pairs(((0, 1), (1, 0), (1, 0)))

    def test_a_place_of_one_twice(self):
        self.check_pairs(((0, 0), (0, 1)))
        self.check_pairs(((0, 1), (1, 0), (1, 2)))

    def test_a_place_of_other_twice(self):
        self.check_pairs(((0, 0), (1, 0)))
        self.check((((0, 0),), ((0, 1), (1, 0), (2, 1))))

    def test_a_place_beyond_the_table(self):
        self.check((((2, 0),), ()))
        self.check((((0, 3),), ()))
        self.check((((0, 0), (2, 1)), ()))
        self.check((((0, 0),), ((3, 0),)))
        self.check((((0, 0),), ((0, 4),)))
        self.check((((0, 0),), ((0, 0), (1, 10 ** 5000))))

    def test_there_are_no_rows(self):
        self.other = table(3, 0)
        self.check((((0, 0),), ((0, 0),)))
        self.one, self.other = self.other, self.one
        self.check((((0, 0),), ((0, 0),)))

    def test_places_below_0(self):
        for pair in ((-1, 0), (0, -1), (-1, -1), (-(10 ** 5000), 0)):
            self.check_pairs((pair,))

    def test_bools_are_no_places(self):
        for pair in ((True, 1), (1, True), (False, 0), (0, False), (True, True)):
            self.check_pairs((pair,))
        self.check_pairs(((0, 1), (True, 0)))
        self.check_pairs(((0, False), (1, 2)))

    def test_other_values_are_no_places(self):
        for at, value in enumerate(any_values()):
            if isinstance(value, int) and not isinstance(value, bool) and 0 <= value <= 2:
                continue
            with self.subTest(at=at):
                self.check((((value, 0),), ()))
                self.check((((0, value),), ()))
                self.check((((0, 0),), ((value, 0),)))
                self.check((((0, 0),), ((0, value),)))

    def test_a_list_is_no_tuple(self):
        self.check([((0, 0),), ((0, 0),)])
        self.check([(), ()])
        self.check(([(0, 0)], ((0, 0),)))
        self.check((((0, 0),), [(0, 0)]))
        self.check(([], ()))
        self.check(((), []))
        self.check((([0, 0],), ()))
        self.check((((0, 0),), ([0, 0],)))

    def test_pairs_of_another_length(self):
        for pair in ((), (0,), (0, 0, 0), (0, 0, None)):
            self.check_pairs((pair,))

    def test_rows_are_paired_where_no_columns_are(self):
        self.check(((), ((0, 0),)))
        self.check(((), ((0, 1), (2, 0))))

    def test_another_number_of_parts(self):
        for value in ((), ((),), ((), (), ()), (((0, 0),),), (((0, 0),), ((0, 0),), ()), ((0, 0), (0, 0))):
            self.check(value)

    def test_values_of_any_kind(self):
        for at in range(len(any_values())):
            with self.subTest(at=at):
                self.check(any_values()[at])
                if any_values()[at] != ():
                    self.check_pairs(any_values()[at])
                self.check_pairs((any_values()[at],))
                self.check((any_values()[at], any_values()[at], any_values()[at]))

    def test_twenty_deep(self):
        for shell in (tuple, list, dict):
            self.check(nested(shell, 20))
            self.check((nested(shell, 19), ()))
            self.check((((0, 0),), nested(shell, 19)))
            self.check((((0, nested(shell, 17)),), ()))


class Parts(unittest.TestCase):
    """Each part of the cost alone, all others being 0 or told beside it."""

    def check(self, expected, one, other, alignment, costs=APART):
        self.assertEqual(cost_of(one, other, costs, alignment), expected)
        self.assertEqual(type(cost_of(one, other, costs, alignment)), int)

    def test_nothing(self):
        one = table(3, 6)
        straight = (tuple([(c, c) for c in range(3)]), tuple([(i, i) for i in range(6)]))
        self.check(0, one, one, straight)

    def test_columns_that_went_or_came(self):
        self.check(50 * 2, Table(("a",), ()), Table(("a",), ()), ((), ()))
        self.check(50 * 6, Table(tuple("abc"), ()), Table(tuple("abc"), ()), ((), ()))
        self.check(50 * 2, Table(tuple("abc"), ()), Table(("b",), ()), (((1, 0),), ()))
        self.check(50 * 2, Table(("b",), ()), Table(tuple("abc"), ()), (((0, 1),), ()))
        self.check(50 * 1, Table(tuple("ab"), ()), Table(tuple("abc"), ()), (((0, 0), (1, 1)), ()))

    def test_rows_that_went_or_came(self):
        one, other = Table(("a",), ((1,),) * 3), Table(("a",), ((1,),) * 2)
        self.check(7 * 5, one, other, (((0, 0),), ()))
        self.check(7 * 5, other, one, (((0, 0),), ()))
        self.check(7 * 3, one, other, (((0, 0),), ((2, 0),)))
        self.check(7 * 1, one, other, (((0, 0),), ((0, 1), (1, 0))))
        self.check(7 * 1, other, one, (((0, 0),), ((0, 1), (1, 0))))
        self.check(7 * 6, Table(("a",), ((1,),) * 6), Table(("a",), ()), (((0, 0),), ()))

    def test_other_names(self):
        one = Table(tuple("abc"), ())
        self.check(20 * 1, one, Table(tuple("abd"), ()), (((0, 0), (1, 1), (2, 2)), ()))
        self.check(20 * 2, one, Table(tuple("bac"), ()), (((0, 0), (1, 1), (2, 2)), ()))
        self.check(20 * 3, one, Table(tuple("bca"), ()), (((0, 0), (1, 1), (2, 2)), ()))
        self.check(50 * 4 + 20, one, Table(tuple("bca"), ()), (((0, 0),), ()))

    def test_unlike_cells(self):
        one, other = Table(("a", "b"), ((1, None), ("x", 2))), Table(("a", "b"), ((1, 0), ("y", 2)))
        straight = ((0, 0), (1, 1))
        self.check(1 * 2, one, other, (straight, straight))
        self.check(1 * 4, one, other, (straight, ((0, 1), (1, 0))))
        self.check(7 * 2 + 1, one, other, (straight, ((0, 0),)))

    def test_cells_of_columns_that_are_no_pair_do_not_count(self):
        one, other = Table(("a", "b"), ((1, 2),)), Table(("a", "b"), ((1, 3),))
        self.check(50 * 2, one, other, (((0, 0),), ((0, 0),)))
        self.check(50 * 2 + 1, one, other, (((1, 1),), ((0, 0),)))
        self.check(50 * 2 + 20 + 1, one, other, (((0, 1),), ((0, 0),)))

    def test_cells_of_rows_that_are_no_pair_do_not_count(self):
        self.check(7 * 2, Table(("a",), ((1,),)), Table(("a",), ((2,),)), (((0, 0),), ()))

    def test_unlike_cells_of_each_kind(self):
        for cell, same in product((None, 0, 1, -1, "a", "b"), repeat=2):
            with self.subTest(cell=cell, same=same):
                one, other = Table(("a",), ((cell,),)), Table(("a",), ((same,),))
                self.check(0 if cell == same else 1, one, other, (((0, 0),), ((0, 0),)))

    def test_columns_that_were_exchanged_have_their_cells_beside_their_partners(self):
        one, other = Table(("a", "b"), ((1, 2),)), Table(("b", "a"), ((2, 1),))
        self.check(3, one, other, (((0, 1), (1, 0)), ((0, 0),)))
        self.check(2 * 20 + 2, one, other, (((0, 0), (1, 1)), ((0, 0),)))

    def test_all_together(self):
        one = Table(tuple("abc"), ((1, 2, 3), (4, 5, 6), (7, 8, 9)))
        other = Table(tuple("bad"), ((2, 1, 0), (5, 0, 6), (9, 9, 9), (0, 0, 0)))
        self.check(
            2 * 50 + 3 * 7 + 3 + 1, one, other, (((0, 1), (1, 0)), ((0, 0), (1, 1))),
        )
        self.check(
            3 * 7 + 20 + 3 + 1 * 2, one, other, (((0, 1), (1, 0), (2, 2)), ((0, 0), (1, 1))),
        )

    def test_each_cost_is_the_one_that_was_given(self):
        one = Table(tuple("abc"), ((1, 2, 3), (4, 5, 6)))
        other = Table(tuple("bad"), ((2, 1, 0),))
        alignment = (((0, 1), (1, 0), (2, 2)), ((0, 0),))
        lone = (((1, 2),), ())
        self.check(3 + 4 + 1 + 1, one, other, alignment, Costs())
        self.check(40 + 4 + 1 + 1, one, other, alignment, Costs(cell=40))
        self.check(3 + 40 + 1 + 1, one, other, alignment, Costs(row=40))
        self.check(3 + 4 + 1 + 1, one, other, alignment, Costs(column=40))
        self.check(3 + 4 + 40 + 1, one, other, alignment, Costs(name=40))
        self.check(3 + 4 + 1 + 40, one, other, alignment, Costs(move=40))
        self.check(4 * 40 + 3 * 4 + 1, one, other, lone, Costs(column=40))


class Moves(unittest.TestCase):
    def check(self, moves, pairs):
        one = Table(tuple("abc"), ())
        # Each column keeps its name, so that moves are all that is told beside columns alone.
        names = ["x", "y", "z"]
        for i, j in pairs:
            names[j] = "abc"[i]
        alone = 50 * 2 * (3 - len(pairs))
        self.assertEqual(cost_of(one, Table(tuple(names), ()), APART, (pairs, ())), 3 * moves + alone)

    def test_two_columns_in_every_sequence(self):
        for i, k in ((0, 1), (0, 2), (1, 2)):
            for j, m in permutations(range(3), 2):
                with self.subTest(i=i, k=k, j=j, m=m):
                    self.check(0 if j < m else 1, ((i, j), (k, m)))

    def test_three_columns_in_every_sequence(self):
        for sequence, moves in (
            ((0, 1, 2), 0), ((0, 2, 1), 1), ((1, 0, 2), 1), ((1, 2, 0), 1), ((2, 0, 1), 1), ((2, 1, 0), 2),
        ):
            with self.subTest(sequence):
                self.check(moves, tuple(enumerate(sequence)))

    def test_one_column_never_moves(self):
        for i, j in product(range(3), repeat=2):
            self.check(0, ((i, j),))

    def test_rows_do_not_move(self):
        one, other = Table(("a",), ((1,), (2,), (3,))), Table(("a",), ((3,), (2,), (1,)))
        self.assertEqual(cost_of(one, other, APART, (((0, 0),), ((0, 2), (1, 1), (2, 0)))), 0)


class Errors(unittest.TestCase):
    def test_they_are_held_errors(self):
        with self.assertRaises(HeldError):
            cost_of(table(1, 1), table(1, 1), Costs(), None)

    def test_of_two_tables_that_are_alike_the_one_that_lacks_the_place(self):
        self.assertIs(is_alignment(table(1, 1), table(2, 2), (((0, 1),), ((0, 1),))), True)
        self.assertIs(is_alignment(table(2, 2), table(1, 1), (((0, 1),), ((0, 1),))), False)
        self.assertIs(is_alignment(table(2, 2), table(1, 1), (((1, 0),), ((1, 0),))), True)
        self.assertIs(is_alignment(table(1, 1), table(2, 2), (((1, 0),), ((1, 0),))), False)


if __name__ == "__main__":
    unittest.main()
