"""Costs: what each kind of change adds to the cost of an alignment."""

from tableheld.errors import BadCost
from tableheld.values import is_integer_within

LEAST_COST = 1
GREATEST_COST = 50


class Costs:
    """The five costs of an alignment: an unlike cell, a row or a column alone, another name, a move."""

    def __init__(self, *, cell=3, row=4, column=5, name=1, move=1):
        for cost in (cell, row, column, name, move):
            if not is_integer_within(cost, LEAST_COST, GREATEST_COST):
                raise BadCost(cost)
        self.cell = cell
        self.row = row
        self.column = column
        self.name = name
        self.move = move

    def __eq__(self, other):
        return (
            isinstance(other, Costs)
            and self.cell == other.cell
            and self.row == other.row
            and self.column == other.column
            and self.name == other.name
            and self.move == other.move
        )
