"""The sides of a merge: base beside a table that came from it, where it is known what became of the columns."""

from tableheld.comparing import places_of
from tableheld.errors import Unsure


class Side:
    """One side of a merge, with the name it has there; all best alignments of it have the same pairs of columns."""

    def __init__(self, name, compared):
        for c in places_of(compared.one, "column"):
            if len(compared.partners("column", c)) > 1:
                raise Unsure(name, c)
        self.compared = compared
        self.base = compared.one
        self.changed = compared.other
        self.pairs = compared.parts[0].pairs
        self.choices = compared.parts[0].choices
        partners = dict(self.pairs)
        # For each column of base, its place on this side, or None if it went.
        self.became = [partners.get(c) for c in places_of(self.base, "column")]
        self.came = [d for d in places_of(self.changed, "column") if d not in self.became]

    def name_of(self, c):
        """Return the name that a column of base has on this side."""
        return self.changed.columns[self.became[c]]

    def in_sequence(self, columns):
        """Return columns of base in the sequence that they have on this side."""
        return [c for _, c in sorted([(self.became[c], c) for c in columns])]

    def keeps_cell(self, i, j, c):
        """Tell whether row i of base, which became j, has the same cell in a column of base that did not go."""
        return self.changed.rows[j][self.became[c]] == self.base.rows[i][c]

    def leaves_alone(self, i, j):
        """Tell whether this side left alone row i of base, which became j."""
        stayed = [c for c in places_of(self.base, "column") if self.became[c] is not None]
        if not all([self.keeps_cell(i, j, c) for c in stayed]):
            return False
        return all([self.changed.rows[j][d] is None for d in self.came])

    def cell_at(self, j, d):
        """Return the cell of a row in a column of this side; None if the side does not have the column."""
        return None if d is None else self.changed.rows[j][d]
