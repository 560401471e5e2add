"""Alignments of two tables, what they cost, and the conditions that they keep."""

from tableheld.errors import BadAlignment, BadCondition
from tableheld.values import is_place

KINDS = ("column", "row")
MOST_CONDITIONS = 40


def how_many_places(table, kind):
    """Return how many columns or rows a table has."""
    return len(table.columns) if kind == "column" else len(table.rows)


def is_pair(value, many, many_other):
    """Tell whether any value is a tuple of one of so many places, and one of so many others."""
    return isinstance(value, tuple) and len(value) == 2 and is_place(value[0], many) and is_place(value[1], many_other)


def are_pairs(value, many, many_other):
    """Tell whether any value is an ascending tuple of pairs in which no place stands twice."""
    if not isinstance(value, tuple) or not all([is_pair(pair, many, many_other) for pair in value]):
        return False
    others = [j for _, j in value]
    # Pairs that ascend, none with the first place of another one, ascend by their first places.
    return all([value[k - 1][0] < value[k][0] for k in range(1, len(value))]) and len(set(others)) == len(others)


def is_alignment(one, other, value):
    """Tell whether any value is an alignment of two tables."""
    if not isinstance(value, tuple) or len(value) != 2:
        return False
    columns, rows = value
    if not are_pairs(columns, len(one.columns), len(other.columns)):
        return False
    return are_pairs(rows, len(one.rows), len(other.rows)) and (columns != () or rows == ())


def check_alignment(one, other, value):
    """Raise BadAlignment unless a value is an alignment."""
    if not is_alignment(one, other, value):
        raise BadAlignment(value)


def longest_rise(places):
    """Return the length of the longest rising subsequence."""
    lengths = []
    for at, place in enumerate(places):
        lengths.append(1 + max([lengths[k] for k in range(at) if places[k] < place], default=0))
    return max(lengths, default=0)


def cost_of_columns(one, other, costs, pairs):
    """Return what the columns cost that are paired like this: those left alone, names and moves."""
    alone = len(one.columns) + len(other.columns) - 2 * len(pairs)
    renamed = len([i for i, j in pairs if one.columns[i] != other.columns[j]])
    moved = len(pairs) - longest_rise([j for _, j in pairs])
    return costs.column * alone + costs.name * renamed + costs.move * moved


def unlike_cells(row, other_row, pairs):
    """Return in how many pairs of columns two rows have unlike cells."""
    return len([i for i, j in pairs if row[i] != other_row[j]])


def alignment_cost(one, other, costs, alignment):
    """Return the cost of what is known to be an alignment."""
    columns, rows = alignment
    alone = len(one.rows) + len(other.rows) - 2 * len(rows)
    unlike = sum([unlike_cells(one.rows[i], other.rows[j], columns) for i, j in rows])
    return cost_of_columns(one, other, costs, columns) + costs.row * alone + costs.cell * unlike


def cost_of(one, other, costs, alignment):
    """Return the cost of an alignment."""
    check_alignment(one, other, alignment)
    return alignment_cost(one, other, costs, alignment)


def is_place_or_none(value, many):
    """Tell whether any value is one of so many places, or None."""
    return value is None or is_place(value, many)


def is_condition(one, other, value):
    """Tell whether any value is a condition for two tables."""
    if not isinstance(value, tuple) or len(value) != 4:
        return False
    kind, i, j, truth = value
    if kind not in KINDS or not isinstance(truth, bool) or (i is None and j is None):
        return False
    return is_place_or_none(i, how_many_places(one, kind)) and is_place_or_none(j, how_many_places(other, kind))


def check_conditions(one, other, value):
    """Raise BadCondition unless a value is conditions."""
    if not isinstance(value, tuple) or len(value) > MOST_CONDITIONS:
        raise BadCondition(value)
    for condition in value:
        if not is_condition(one, other, condition):
            raise BadCondition(condition)


def is_true_of_pairs(pairs, i, j):
    """Tell whether it is true of pairs that i and j are one, that i is in none (no j), or j in none (no i)."""
    if j is None:
        return i not in [place for place, _ in pairs]
    if i is None:
        return j not in [place for _, place in pairs]
    return (i, j) in pairs


def pairs_keep(pairs, conditions, kind):
    """Tell whether the pairs of columns or of rows keep all conditions of this kind."""
    return all([is_true_of_pairs(pairs, i, j) == truth for about, i, j, truth in conditions if about == kind])


def keeps_conditions(alignment, conditions):
    """Tell whether what is known to be an alignment keeps what are known to be conditions."""
    columns, rows = alignment
    return pairs_keep(columns, conditions, "column") and pairs_keep(rows, conditions, "row")


def keeps(one, other, alignment, conditions):
    """Tell whether an alignment keeps all conditions."""
    check_alignment(one, other, alignment)
    check_conditions(one, other, conditions)
    return keeps_conditions(alignment, conditions)
