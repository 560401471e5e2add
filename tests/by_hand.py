"""What the tests work out themselves, from the words of the document alone: all alignments, one by one.

Nothing here calls the program, but for making tables and costs.
"""

from functools import lru_cache
from itertools import combinations

from tableheld.costs import Costs
from tableheld.tables import Table


@lru_cache(maxsize=None)
def pairings(many, many_other):
    """Return all ascending tuples of pairs of places, no place being in two of them."""
    found = []

    def grow(pairs, i):
        if i == many:
            found.append(pairs)
            return
        grow(pairs, i + 1)
        for j in range(many_other):
            if j not in [taken for _, taken in pairs]:
                grow((*pairs, (i, j)), i + 1)

    grow((), 0)
    return tuple(sorted(found))


def column_pairings(one, other):
    return pairings(len(one.columns), len(other.columns))


def alignments(one, other):
    """Return all alignments of two tables."""
    rows = pairings(len(one.rows), len(other.rows))
    return [(columns, pairs) for columns in column_pairings(one, other) for pairs in (rows if columns else ((),))]


@lru_cache(maxsize=None)
def moved(pairs):
    """Return by how much the pairs exceed the longest choice of them that rises, trying all choices."""
    for size in range(len(pairs), 0, -1):
        for chosen in combinations([j for _, j in sorted(pairs)], size):
            if list(chosen) == sorted(chosen):
                return len(pairs) - size
    return 0


def column_cost(one, other, costs, pairs):
    cost = costs.move * moved(pairs)
    cost += costs.column * (len(one.columns) - len(pairs))
    cost += costs.column * (len(other.columns) - len(pairs))
    for i, j in pairs:
        cost += 0 if one.columns[i] == other.columns[j] else costs.name
    return cost


def unlike(one, other, columns, i, j):
    """Return in how many pairs of columns the rows i and j have unlike cells."""
    return sum(1 for c, d in columns if one.rows[i][c] != other.rows[j][d])


def cost(one, other, costs, alignment):
    columns, rows = alignment
    total = column_cost(one, other, costs, columns)
    total += costs.row * (len(one.rows) - len(rows))
    total += costs.row * (len(other.rows) - len(rows))
    for i, j in rows:
        total += costs.cell * unlike(one, other, columns, i, j)
    return total


def is_true(alignment, kind, i, j):
    """Tell whether a claim is true of an alignment."""
    pairs = alignment[("column", "row").index(kind)]
    if j is None:
        return all(place != i for place, _ in pairs)
    if i is None:
        return all(place != j for _, place in pairs)
    return any(pair == (i, j) for pair in pairs)


def keeps(alignment, conditions):
    for kind, i, j, truth in conditions:
        if is_true(alignment, kind, i, j) != truth:
            return False
    return True


def best(one, other, costs, conditions):
    """Return the least cost and all alignments of this cost; (None, []) if none keeps the conditions."""
    kept = [(cost(one, other, costs, found), found) for found in alignments(one, other) if keeps(found, conditions)]
    if not kept:
        return None, []
    least = min(price for price, _ in kept)
    return least, [found for price, found in kept if price == least]


@lru_cache(maxsize=None)
def partners_of_six():
    """Return for each pairing of six places with six others a list of the partners; a place that has none has 6."""
    return [[dict(pairs).get(i, 6) for i in range(6)] for pairs in pairings(6, 6)]


def best_of_great(one, other, costs):
    """Return what best returns, for tables of six rows each: faster, as there are very many alignments."""
    least, found = None, []
    for columns in column_pairings(one, other):
        # A row that went is told with one that came, as there are as many of them.
        prices = [
            [costs.cell * unlike(one, other, columns, i, j) for j in range(6)] + [2 * costs.row] for i in range(6)
        ]
        columns_alone = column_cost(one, other, costs, columns)
        for pairs, partners in zip(pairings(6, 6), partners_of_six()):
            price = columns_alone + sum([prices[i][j] for i, j in enumerate(partners)])
            if columns == () and pairs != ():
                continue
            if least is None or price < least:
                least, found = price, []
            if price == least:
                found.append((columns, pairs))
    return least, found


def claims(one, other):
    """Return all claims about two tables."""
    found = []
    for kind, many, many_other in (
        ("column", len(one.columns), len(other.columns)), ("row", len(one.rows), len(other.rows)),
    ):
        for i in [*range(many), None]:
            for j in [*range(many_other), None]:
                if (i, j) != (None, None):
                    found.append((kind, i, j))
    return found


def may_go(conditions, i):
    return not any(
        kind == "row" and a == i and (truth is False if b is None else truth is True)
        for kind, a, b, truth in conditions
    )


def may_come(conditions, j):
    return not any(
        kind == "row" and b == j and (truth is False if a is None else truth is True)
        for kind, a, b, truth in conditions
    )


def may_be_a_pair(conditions, i, j):
    for kind, a, b, truth in conditions:
        if kind == "row":
            if (a, b, truth) in ((i, j, False), (i, None, True), (None, j, True)):
                return False
            if truth and a == i and b is not None and b != j:
                return False
            if truth and b == j and a is not None and a != i:
                return False
    return True


def are_bounds(one, other, costs, conditions, shown, bounds):
    """Tell whether bounds of the right form show this cost, as section 8 has it."""
    first_parts = [
        pairs for pairs in column_pairings(one, other)
        if keeps((pairs, ()), [condition for condition in conditions if condition[0] == "column"])
    ]
    if [pairs for pairs, _, _ in bounds] != first_parts:
        return False
    for pairs, left, right in bounds:
        if (len(left), len(right)) != (len(one.rows), len(other.rows)):
            return False
        for i in range(len(left)):
            if may_go(conditions, i) and left[i] > costs.row:
                return False
            for j in range(len(right)):
                if pairs != () and may_be_a_pair(conditions, i, j):
                    if left[i] + right[j] > costs.cell * unlike(one, other, pairs, i, j):
                        return False
        for j in range(len(right)):
            if may_come(conditions, j) and right[j] > costs.row:
                return False
        if column_cost(one, other, costs, pairs) + sum(left) + sum(right) < shown:
            return False
    return True


def answer(alignment, question):
    kind, i = question
    for place, partner in alignment[("column", "row").index(kind)]:
        if place == i:
            return partner
    return None


def fewest(one, alignment, all_best):
    """Return the fewest questions, the least tuple of these, by asking every set of them."""
    questions = [("column", c) for c in range(len(one.columns))] + [("row", i) for i in range(len(one.rows))]
    good = []
    for size in range(len(questions) + 1):
        for asked in combinations(questions, size):
            answers = [answer(alignment, question) for question in asked]
            same = [found for found in all_best if [answer(found, question) for question in asked] == answers]
            if same == [alignment]:
                good.append(asked)
        if good:
            return min(good)
    raise AssertionError("all questions together leave another alignment")


class Numbers:
    """The same sequence of numbers each time: it looks mixed, but nothing about it is random."""

    def __init__(self, seed):
        self.state = seed

    def below(self, many):
        self.state = (self.state * 6364136223846793005 + 1442695040888963407) % 2 ** 64
        return (self.state >> 33) % many

    def one_of(self, values):
        return values[self.below(len(values))]


def some_table(numbers, width, many):
    names = list("abcd")
    columns = tuple([names.pop(numbers.below(len(names))) for _ in range(width)])
    cells = numbers.one_of([(1, 2), (1, 2, 3, None), ("x", None, 0), (1,)])
    return Table(columns, tuple([tuple([numbers.one_of(cells) for _ in range(width)]) for _ in range(many)]))


def some_changed(numbers, table, many):
    """Return a table that has something from the other one: rows and names, in another sequence."""
    other = some_table(numbers, 1 + numbers.below(3), many)
    rows = [list(row) for row in other.rows]
    for row in rows:
        if table.rows and numbers.below(3):
            for at, cell in enumerate(numbers.one_of(table.rows)[:len(row)]):
                row[at] = cell
    if numbers.below(2) and len(table.columns) == len(other.columns):
        return Table(table.columns[::-1], tuple([tuple(row) for row in rows]))
    return Table(other.columns, tuple([tuple(row) for row in rows]))


SOME_COSTS = (
    {}, {}, {"move": 2}, {"cell": 8}, {"cell": 4, "row": 2}, {"cell": 1, "row": 1, "column": 1},
    {"column": 1, "name": 2}, {"cell": 50, "row": 1}, {"row": 50, "column": 50},
    {"cell": 2, "row": 3, "name": 4, "move": 3},
)


class Case:
    """Two tables with costs and conditions, and what has been worked out by hand: the least cost, all best ones."""

    def __init__(self, one, other, costs, conditions):
        self.one, self.other, self.costs, self.conditions = one, other, costs, conditions
        self.given = (one, other, costs, conditions)
        self.cost, self.best = best(*self.given)

    def __str__(self):
        tables = [(table.columns, table.rows) for table in (self.one, self.other)]
        return f"{tables} {vars(self.costs)} {self.conditions}"

    def true_of(self, claim):
        """Return of how many best alignments a claim is true."""
        return sum(1 for found in self.best if is_true(found, *claim))

    def verdict(self, claim):
        number = self.true_of(claim)
        return "always" if number == len(self.best) else "sometimes" if number else "never"


def some_case(seed):
    numbers = Numbers(seed)
    width = 1 + seed % 3
    most = (4, 4, 3)[width - 1]
    one = some_table(numbers, width, numbers.below(most + 1))
    other = some_changed(numbers, one, numbers.below(most + 1))
    asked = claims(one, other)
    conditions = [(*numbers.one_of(asked), numbers.below(2) == 0) for _ in range((0, 0, 1, 2, 4)[seed % 5])]
    return Case(one, other, Costs(**SOME_COSTS[seed % 7 + numbers.below(4)]), tuple(conditions))


@lru_cache(maxsize=None)
def all_cases():
    """Return cases of many kinds; in some of them no alignment keeps the conditions."""
    return tuple([some_case(seed) for seed in range(150)])


def cases():
    """Return the cases in which there is a best alignment."""
    return [case for case in all_cases() if case.best]


def hopeless_cases():
    """Return the cases in which no alignment keeps the conditions."""
    return [case for case in all_cases() if not case.best]
