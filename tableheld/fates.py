"""What columns and rows may become under conditions: their fates.

A fate is a tuple (i, j): i and j are a pair; if j is None, i goes; if i is None, j comes.
"""

from itertools import combinations, permutations

from tableheld.alignments import pairs_keep, unlike_cells


def pairings(many, many_other):
    """Return all pairings of so many places with so many others, ascending."""
    return sorted([
        tuple(zip(places, others))
        for size in range(min(many, many_other) + 1)
        for places in combinations(range(many), size)
        for others in permutations(range(many_other), size)
    ])


def kept_pairings(one, other, conditions):
    """Return the pairings of columns that keep the conditions about columns, ascending."""
    found = pairings(len(one.columns), len(other.columns))
    return [pairs for pairs in found if pairs_keep(pairs, conditions, "column")]


def breaks(fate, condition):
    """Tell whether a row cannot have this fate because of a condition about rows."""
    i, j = fate
    _, a, b, truth = condition
    same_place = (i is not None and i == a) or (j is not None and j == b)
    # A claim about one of the places of a fate is true of it exactly if it tells this very fate.
    return same_place and truth != ((i, j) == (a, b))


def allowed_fates(one, other, conditions):
    """Return all fates of rows that no condition rules out."""
    rows, other_rows = list(range(len(one.rows))), list(range(len(other.rows)))
    about_rows = [condition for condition in conditions if condition[0] == "row"]
    fates = [(i, j) for i in [*rows, None] for j in [*other_rows, None] if i is not None or j is not None]
    return [fate for fate in fates if not any([breaks(fate, condition) for condition in about_rows])]


def fate_costs(one, other, costs, pairs, fates):
    """Return a dict of those of the fates that rows may have beside these pairs of columns, and their costs."""
    found = {}
    for i, j in fates:
        if i is None or j is None:
            found[(i, j)] = costs.row
        elif pairs:
            found[(i, j)] = costs.cell * unlike_cells(one.rows[i], other.rows[j], pairs)
    return found
