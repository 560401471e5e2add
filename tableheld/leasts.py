"""The least cost of an alignment that keeps conditions, and bounds that show that none costs less."""

from tableheld.alignments import check_conditions, cost_of_columns
from tableheld.choices import FORBIDDEN, Choices
from tableheld.costs import Costs
from tableheld.errors import NoAlignment
from tableheld.fates import allowed_fates, fate_costs, kept_pairings
from tableheld.values import is_integer


class Solution:
    """The alignments with one pairing of columns that keep the conditions at the least cost."""

    def __init__(self, one, other, costs, pairs, fates):
        costs_of_fates = fate_costs(one, other, costs, pairs, fates)
        self.pairs = pairs
        self.choices = Choices(costs_of_fates, len(one.rows), len(other.rows))
        self.cost = cost_of_columns(one, other, costs, pairs) + self.choices.least

    def alignment(self):
        """Return one of these alignments."""
        return (self.pairs, self.choices.first())

    def entry(self):
        """Return the entry of bounds for this pairing."""
        left, right = self.choices.bounds()
        return (self.pairs, left, right)


def solutions(one, other, costs, conditions):
    """Return a solution for each pairing of columns that keeps the conditions about columns, ascending."""
    fates = allowed_fates(one, other, conditions)
    return [Solution(one, other, costs, pairs, fates) for pairs in kept_pairings(one, other, conditions)]


def least_cost(found):
    """Return the least cost of solutions; it is below FORBIDDEN exactly if some alignment keeps the conditions."""
    return min([solution.cost for solution in found], default=FORBIDDEN)


def best_solutions(found):
    """Return the solutions of the least cost; NoAlignment if no alignment keeps the conditions."""
    lowest = least_cost(found)
    if lowest >= FORBIDDEN:
        raise NoAlignment()
    return [solution for solution in found if solution.cost == lowest]


def can_be_kept(one, other, conditions):
    """Tell whether some alignment keeps all conditions."""
    fates = allowed_fates(one, other, conditions)
    pairings = kept_pairings(one, other, conditions)
    # Beside pairs of columns, whichever, rows may do all that they may do without; () is ahead of all other pairings.
    return len(pairings) > 0 and Solution(one, other, Costs(), pairings[-1], fates).cost < FORBIDDEN


def bounds_of(found):
    """Return bounds for the least cost of solutions, or for a cost up to FORBIDDEN if they keep no alignment."""
    return tuple([solution.entry() for solution in found])


def least(one, other, costs, conditions=()):
    """Return the least cost of an alignment that keeps the conditions, such an alignment, and bounds for this cost."""
    check_conditions(one, other, conditions)
    found = solutions(one, other, costs, conditions)
    best = best_solutions(found)[0]
    return (best.cost, best.alignment(), bounds_of(found))


def are_integers(value, many):
    """Tell whether any value is a tuple of so many integers."""
    return isinstance(value, tuple) and len(value) == many and all([is_integer(member) for member in value])


def is_entry(one, other, pairs, value):
    """Tell whether any value has the form of an entry of bounds for this pairing of columns."""
    if not isinstance(value, tuple) or len(value) != 3:
        return False
    shown, left, right = value
    # Comparing is not enough for the pairs, as True equals 1.
    if shown != pairs or not all([is_integer(place) for pair in shown for place in pair]):
        return False
    return are_integers(left, len(one.rows)) and are_integers(right, len(other.rows))


def holds(costs_of_fates, left, right):
    """Tell whether no fate costs less than the integers of its places together."""
    for (i, j), cost in costs_of_fates.items():
        if (0 if i is None else left[i]) + (0 if j is None else right[j]) > cost:
            return False
    return True


def are_bounds(one, other, costs, conditions, cost, value):
    """Tell whether any value is bounds for a cost, with what are known to be conditions."""
    expected = kept_pairings(one, other, conditions)
    if not isinstance(value, tuple) or len(value) != len(expected):
        return False
    fates = allowed_fates(one, other, conditions)
    for pairs, entry in zip(expected, value):
        if not is_entry(one, other, pairs, entry):
            return False
        _, left, right = entry
        if not holds(fate_costs(one, other, costs, pairs, fates), left, right):
            return False
        if cost_of_columns(one, other, costs, pairs) + sum(left) + sum(right) < cost:
            return False
    return True


def shows_least(one, other, costs, conditions, cost, value):
    """Tell whether any value is bounds for a cost."""
    check_conditions(one, other, conditions)
    return are_bounds(one, other, costs, conditions, cost, value)
