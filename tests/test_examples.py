"""The examples of points 12 to 18 of the document, as they stand there."""

import unittest

BEGINNING = r"""
>>> from tableheld.costs import Costs
>>> from tableheld.history import History
>>> from tableheld.tables import Table
"""

HISTORIES = r"""
>>> history = History(Table(('a',), ((1,),)))
>>> [history.add(Table(('a',), ((2,), (3,)))), history.comparison(1).cost, history.comparison(1).partners('row', 0), history.say(1, 'row', 0, 0, True), history.comparison(1).partners('row', 0)]
[1, 7, (0, 1), 0, (0,)]
>>> history.say(1, 'row', 0, 1, True)
raises Contradiction(numbers=(0, 1))
>>> [history.say(1, 'row', None, 1, True), history.unsay(0), history.sayings, history.comparison(1).partners('row', 0)]
[1, None, ((1, 1, 'row', None, 1, True),), (0,)]
"""

WHERE_FROM_WHERE_TO = r"""
>>> history = History(Table(('a',), ((1,),)))
>>> done = [history.add(Table(('a',), ((2,), (3,)))), history.add(Table(('a',), ((2,), (3,))))]
>>> [history.origins('row', 2, 0, 0), history.births('row', 2, 0), history.fates('row', 0, 0, 2), history.births('column', 2, 0)]
[(0, None), (0, 1), (0, 1), (0,)]
>>> done = [history.add(Table(('a',), ((3,), (2,), (3,))))]
>>> [history.origins('row', 3, 0, 2), history.births('row', 3, 0), history.births('row', 3, 1)]
[(1, None), (0, 1, 3), (0, 1)]
"""

WHEN_A_CELL_WAS_SET = r"""
>>> from tableheld.history import shows_track
>>> history = History(Table(('a', 'b'), ((1, 2), (2, 1))), Costs(move=2))
>>> done = [history.add(Table(('b', 'a'), ((1, 2), (2, 1)))), history.add(Table(('b', 'a'), ((1, 7), (2, 1))))]
>>> [history.settings(2, 0, 0), history.settings(2, 0, 1), shows_track(history, 2, 0, 0, 1, history.track(2, 0, 0, 1))]
[(0,), (2,), True]
>>> [shows_track(history, 1, 0, 0, 1, ('never', (((0, 0),),))), shows_track(history, 1, 0, 1, 0, ('never', (((0, 1),), ())))]
[True, False]
"""

MERGING_COLUMNS = r"""
>>> from tableheld.costs import Costs
>>> from tableheld.merging import merge
>>> from tableheld.tables import Table
>>> merged = merge(Table(('a', 'b'), ((1, 2),)), Table(('b', 'x'), ((2, 1),)), Table(('a', 'b', 'c'), ((1, 5, 9),)), Costs())
>>> [merged.columns, merged.table().rows]
[('b', 'x', 'c'), ((5, 1, 9),)]
>>> merge(Table(('a',), ((1,),)), Table(('x',), ((1,),)), Table(('y',), ((1,),)), Costs())
raises ColumnClash(word='name')
"""

MERGING_ROWS = r"""
>>> from tableheld.costs import Costs
>>> from tableheld.merging import merge, shows_doubt
>>> from tableheld.tables import Table
>>> merged = merge(Table(('a',), ((1,), (1,), (5,))), Table(('a',), ((1,), (1,), (6,))), Table(('a',), ((1,), (2,), (5,))), Costs())
>>> [merged.disagreement(), merged.outcomes(0), merged.outcomes(2), merged.table().rows, merged.doubt(), merged.arrivals('theirs')]
[6, (('row', (1,)), ('row', (2,))), (('row', (6,)),), ((1,), (2,), (6,)), None, ('never', 'never', 'never')]
>>> clash = merge(Table(('a',), ((1,),)), Table(('a',), ((2,),)), Table(('a',), ((3,),)), Costs())
>>> choice = ((((0, 0),), ((0, 0),)), (((0, 0),), ((0, 0),)))
>>> [clash.outcomes(0), shows_doubt(clash, (choice, choice))]
[(('clash',),), True]
>>> clash.table()
raises Doubt(spots=(0,))
"""

TRIALS = r"""
>>> from tableheld.history import History
>>> from tableheld.tables import Table
>>> history = History(Table(('a',), ()))
>>> [history.tried(lambda trial: [history.add(Table(('b',), ())), history.say(1, 'column', 0, None, True)]), history.last, history.sayings, history.add(Table(('a',), ())), history.say(1, 'column', 0, 0, True)]
[[1, 0], 0, (), 1, 0]
"""

TEXTS = r"""
>>> from tableheld.history import History
>>> from tableheld.tables import Table
>>> from tableheld.texts import read_history, read_table, show_history, show_table
>>> history = History(Table(('a', 'b'), ((1, None), ('x', -2))))
>>> done = [history.add(Table(('a',), ((1,),))), history.say(1, 'row', 1, None, True)]
>>> show_history(history)
'costs 3 4 5 1 1\nversion 0\ncolumns a b\nrow 1 ?\nrow x -2\nversion 1\ncolumns a\nrow 1\nnext 1\nsay 0 1 row 1 - yes'
>>> [show_table(history.version(1)), read_table('columns a\nrow 1') == history.version(1), read_history(show_history(history)) == history]
['columns a\nrow 1', True, True]
>>> read_table('columns a\nrow 01')
raises BadText(line=1)
"""


def outcome(source, names):
    """Return the lines that Python prints for a line of an example, or those that tell which error it raises."""
    try:
        code = compile(source, "example", "eval")
    except SyntaxError:
        exec(source, names)
        return []
    try:
        value = eval(code, names)
    except ValueError as error:
        told = ", ".join(f"{name}={value!r}" for name, value in vars(error).items())
        return [f"raises {type(error).__name__}({told})"]
    return [] if value is None else [repr(value)]


class Examples(unittest.TestCase):
    def check(self, example):
        names, lines = {}, [line for line in example.split("\n") if line]
        starts = [at for at, line in enumerate(lines) if line.startswith(">>> ")] + [len(lines)]
        for start, behind in zip(starts, starts[1:]):
            with self.subTest(lines[start]):
                self.assertEqual(outcome(lines[start][4:], names), lines[start + 1:behind])

    def test_histories(self):
        self.check(BEGINNING + HISTORIES)

    def test_where_from_where_to(self):
        self.check(BEGINNING + WHERE_FROM_WHERE_TO)

    def test_when_a_cell_was_set(self):
        self.check(BEGINNING + WHEN_A_CELL_WAS_SET)

    def test_merging_columns(self):
        self.check(MERGING_COLUMNS)

    def test_merging_rows(self):
        self.check(MERGING_ROWS)

    def test_trials(self):
        self.check(TRIALS)

    def test_texts(self):
        self.check(TEXTS)


if __name__ == "__main__":
    unittest.main()
