"""What a merge makes of rows: of those of base by their fates, and of those that came.

The fates of a row of base are a tuple (j, k): it became j on side ours and k on side theirs; None is for what went.
"""

from tableheld.comparing import places_of

GONE = ("gone",)
CLASH = ("clash",)


def with_those_alike(rows, others):
    """Return a list of rows and others; a row of each that are equal are the same row."""
    left = list(others)
    for row in rows:
        if row in left:
            left.remove(row)
    return [*rows, *left]


class RowMaker:
    """What becomes of rows in the merge of two sides with these columns."""

    def __init__(self, sides, columns):
        self.sides = sides
        self.base = sides[0].base
        self.columns = columns
        # The columns of base that went on exactly one side, each with the other side, as a place among the sides.
        self.half_gone = [
            (c, at)
            for c in places_of(self.base, "column")
            for at in (0, 1)
            if sides[at].became[c] is not None and sides[1 - at].became[c] is None
        ]

    def cells_in(self, column, fates):
        """Return the cells of a row that went on neither side in a column that stays: those of ours and of theirs."""
        return [side.cell_at(j, d) for side, j, d in zip(self.sides, fates, column.on_sides)]

    def price(self, fates, costs):
        """Return what a row of base with these fates adds to the disagreement."""
        j, k = fates
        if j is None or k is None:
            return 0 if j == k else costs.row
        pairs = [self.cells_in(column, fates) for column in self.columns if column.in_base is not None]
        return costs.cell * len([our_cell for our_cell, their_cell in pairs if our_cell != their_cell])

    def clashes(self, i, fates):
        """Tell whether a row of base that went on neither side has a clash."""
        for column in self.columns:
            our_cell, their_cell = self.cells_in(column, fates)
            if column.in_base is not None and our_cell != their_cell:
                if self.base.rows[i][column.in_base] not in (our_cell, their_cell):
                    return True
        return any([not self.sides[at].keeps_cell(i, fates[at], c) for c, at in self.half_gone])

    def merged_cell(self, i, fates, column):
        """Return the cell that a row of base without a clash has in a column of the merge."""
        our_cell, their_cell = self.cells_in(column, fates)
        if column.in_base is None:
            # The side that does not have the column has None there.
            return their_cell if our_cell is None else our_cell
        return their_cell if our_cell == self.base.rows[i][column.in_base] else our_cell

    def outcome(self, i, fates):
        """Return the outcome of a row of base with these fates."""
        j, k = fates
        if j is None and k is None:
            return GONE
        if j is None or k is None:
            at = 1 if j is None else 0
            return GONE if self.sides[at].leaves_alone(i, fates[at]) else CLASH
        if self.clashes(i, fates):
            return CLASH
        return ("row", tuple([self.merged_cell(i, fates, column) for column in self.columns]))

    def rows_that_came(self, places):
        """Return the list of the rows of the merge that came: places are two lists, of the rows of ours and theirs."""
        ours, theirs = [
            [tuple([self.sides[at].cell_at(j, column.on_sides[at]) for column in self.columns]) for j in places[at]]
            for at in (0, 1)
        ]
        return with_those_alike(ours, theirs)
