"""Comparisons: what is so in all best alignments of two tables, in some, and in none, with evidence for each."""

from itertools import combinations

from tableheld.alignments import (
    KINDS, alignment_cost, check_alignment, check_conditions, how_many_places, is_alignment, is_place_or_none,
    is_true_of_pairs, keeps_conditions,
)
from tableheld.errors import BadKind, NoPlace, NotBest
from tableheld.fates import allowed_fates
from tableheld.leasts import Solution, are_bounds, best_solutions, bounds_of, least_cost, solutions
from tableheld.values import is_place


def places_of(table, kind):
    """Return the list of the places of columns or rows in a table."""
    return list(range(how_many_places(table, kind)))


def check_kind(kind):
    """Raise BadKind unless a value is column or row."""
    if kind not in KINDS:
        raise BadKind(kind)


def check_place(value, many):
    """Raise NoPlace unless a value is one of so many places."""
    if not is_place(value, many):
        raise NoPlace(value)


def check_claim(one, other, kind, i, j):
    """Raise BadKind or NoPlace unless the values are a claim."""
    check_kind(kind)
    for place, table in ((i, one), (j, other)):
        if not is_place_or_none(place, how_many_places(table, kind)):
            raise NoPlace(place)
    if i is None and j is None:
        raise NoPlace(None)


class Part:
    """The best alignments with one pairing of columns."""

    def __init__(self, solution):
        self.pairs = solution.pairs
        self.choices = solution.choices
        self.with_fate = self.choices.numbers_of_fates()
        self.number = self.choices.how_many()

    def how_many_with(self, kind, i, j):
        """Return how many of them a claim is true of."""
        if kind == "row":
            return self.with_fate.get((i, j), 0)
        return self.number if is_true_of_pairs(self.pairs, i, j) else 0


class Comparison:
    """All alignments of two tables that keep conditions at the least cost of those that do."""

    def __init__(self, one, other, costs, conditions):
        best = best_solutions(solutions(one, other, costs, conditions))
        self.one = one
        self.other = other
        self.costs = costs
        self.conditions = conditions
        self.cost = best[0].cost
        self.parts = [Part(solution) for solution in best]

    def how_many(self):
        """Return how many best alignments there are."""
        return sum([part.number for part in self.parts])

    def best(self):
        """Return any best alignment."""
        return (self.parts[0].pairs, self.parts[0].choices.first())

    def is_best(self, value):
        """Tell whether any value is a best alignment."""
        if not is_alignment(self.one, self.other, value) or not keeps_conditions(value, self.conditions):
            return False
        return alignment_cost(self.one, self.other, self.costs, value) == self.cost

    def how_many_with(self, kind, i, j):
        """Return how many best alignments a claim is true of."""
        return sum([part.how_many_with(kind, i, j) for part in self.parts])

    def verdict(self, kind, i, j):
        """Return always, sometimes or never: the claim is true of all, of some or of no best alignment."""
        check_claim(self.one, self.other, kind, i, j)
        number = self.how_many_with(kind, i, j)
        if number == 0:
            return "never"
        return "always" if number == self.how_many() else "sometimes"

    def partners(self, kind, i):
        """Return what became of a column or row of one in best alignments: places in other, and None if it went."""
        check_kind(kind)
        check_place(i, how_many_places(self.one, kind))
        places = [*places_of(self.other, kind), None]
        return tuple([j for j in places if self.how_many_with(kind, i, j) > 0])

    def sources(self, kind, j):
        """Return what a column or row of other was in best alignments: places in one, and None if it came."""
        check_kind(kind)
        check_place(j, how_many_places(self.other, kind))
        places = [*places_of(self.one, kind), None]
        return tuple([i for i in places if self.how_many_with(kind, i, j) > 0])

    def together(self, i, j, c, d):
        """Tell whether the rows i and j and the columns c and d are pairs in the same best alignment."""
        for place, table, kind in (
            (i, self.one, "row"), (j, self.other, "row"), (c, self.one, "column"), (d, self.other, "column"),
        ):
            check_place(place, how_many_places(table, kind))
        return len(self.parts_with(i, j, c, d)) > 0

    def cell_sources(self, j, d):
        """Return tuples (i, c) of what row j and column d of other were in the same best alignment; None if it came."""
        rows, columns = [[*places_of(self.one, kind), None] for kind in ("row", "column")]
        return [(i, c) for i in rows for c in columns if self.parts_with(i, j, c, d)]

    def parts_with(self, i, j, c, d):
        """Return the parts in which claims about a row and about a column are true of the same best alignment."""
        of_columns = [part for part in self.parts if is_true_of_pairs(part.pairs, c, d)]
        return [part for part in of_columns if part.how_many_with("row", i, j) > 0]

    def example(self, i, j, c, d):
        """Return a best alignment of which a claim about a row and one about a column are true; there must be one."""
        pairs = self.parts_with(i, j, c, d)[0].pairs
        fates = allowed_fates(self.one, self.other, (*self.conditions, ("row", i, j, True)))
        return Solution(self.one, self.other, self.costs, pairs, fates).alignment()

    def solutions_if(self, kind, i, j, truth):
        """Return the solutions with one more condition."""
        return solutions(self.one, self.other, self.costs, (*self.conditions, (kind, i, j, truth)))

    def reason(self, kind, i, j):
        """Return evidence for the verdict of a claim."""
        check_claim(self.one, self.other, kind, i, j)
        so, not_so = self.solutions_if(kind, i, j, True), self.solutions_if(kind, i, j, False)
        if least_cost(so) > self.cost:
            return ("never", bounds_of(so))
        if least_cost(not_so) > self.cost:
            return ("always", bounds_of(not_so))
        return ("sometimes", best_solutions(so)[0].alignment(), best_solutions(not_so)[0].alignment())

    def unlike_answers(self, alignment):
        """Return a list of the sets of questions, as bits of a number, that best alignments answer otherwise.

        Columns come first, so that the bits have the sequence of the questions.
        """
        columns, rows = [dict(pairs) for pairs in alignment]
        width = len(self.one.columns)
        answers = [rows.get(i) for i in range(len(self.one.rows))]
        found = []
        for part in self.parts:
            theirs = dict(part.pairs)
            unlike = sum([1 << i for i in range(width) if theirs.get(i) != columns.get(i)])
            found.extend([unlike + (bits << width) for bits in part.choices.unlike_rows(answers)])
        return found

    def fewest(self, alignment):
        """Return the fewest questions that no other best alignment answers like this one."""
        check_alignment(self.one, self.other, alignment)
        if not self.is_best(alignment):
            raise NotBest()
        questions = [(kind, i) for kind in KINDS for i in places_of(self.one, kind)]
        # Only the alignment itself answers all questions alike, so all of them suffice.
        others = [unlike for unlike in self.unlike_answers(alignment) if unlike > 0]
        for size in range(len(questions)):
            for chosen in combinations(range(len(questions)), size):
                asked = sum([1 << k for k in chosen])
                if all([asked & unlike > 0 for unlike in others]):
                    return tuple([questions[k] for k in chosen])
        return tuple(questions)


def compare(one, other, costs, conditions=()):
    """Return the comparison of two tables."""
    check_conditions(one, other, conditions)
    return Comparison(one, other, costs, conditions)


def shows_reason(comparison, kind, i, j, value):
    """Tell whether any value is evidence for the verdict of a claim."""
    check_claim(comparison.one, comparison.other, kind, i, j)
    if not isinstance(value, tuple) or len(value) < 2:
        return False
    if value[0] == "sometimes":
        return len(value) == 3 and shows_sometimes(comparison, kind, i, j, value[1], value[2])
    if len(value) != 2 or value[0] not in ("always", "never"):
        return False
    conditions = (*comparison.conditions, (kind, i, j, value[0] == "never"))
    return are_bounds(
        comparison.one, comparison.other, comparison.costs, conditions, comparison.cost + 1, value[1]
    )


def shows_sometimes(comparison, kind, i, j, example, against):
    """Tell whether any two values are best alignments, with a claim that is true of the first, not of the second."""
    if not comparison.is_best(example) or not comparison.is_best(against):
        return False
    at = KINDS.index(kind)
    return is_true_of_pairs(example[at], i, j) and not is_true_of_pairs(against[at], i, j)
