"""What the tests work out themselves about merges: they go through all joint choices, one by one.

The best alignments of each side come from by_hand; nothing here calls the program, but for making tables and costs.
"""

from itertools import product

import by_hand
from tableheld.costs import Costs
from tableheld.errors import ColumnClash, TooMany, Unsure
from tableheld.tables import Table

NAMES = ("ours", "theirs")


def row_key(row):
    """Return what the usual sequence sorts rows by."""
    return [(0, 0, "") if cell is None else (1, cell, "") if isinstance(cell, int) else (2, 0, cell) for cell in row]


class Sides:
    """A base and two tables, with costs and conditions: all best alignments of both sides."""

    def __init__(self, base, ours, theirs, costs, for_ours=(), for_theirs=()):
        self.base, self.tables, self.costs = base, (ours, theirs), costs
        self.conditions = (for_ours, for_theirs)
        self.best = [
            by_hand.best(base, table, costs, conditions)[1] for table, conditions in zip(self.tables, self.conditions)
        ]

    def __str__(self):
        tables = [(table.columns, table.rows) for table in (self.base, *self.tables)]
        return f"{tables} {vars(self.costs)} {self.conditions}"

    def column_partners(self, side):
        """Return for each column of base the set of all that it became."""
        return [
            {by_hand.answer(alignment, ("column", c)) for alignment in self.best[side]}
            for c in range(len(self.base.columns))
        ]

    def columns(self):
        """Return the names and where the columns are in base, ours and theirs; or raise what the document says."""
        for side in (0, 1):
            for spot, partners in enumerate(self.column_partners(side)):
                if len(partners) > 1:
                    raise Unsure(NAMES[side], spot)
        became = [[min(partners) if partners != {None} else None for partners in self.column_partners(side)]
                  for side in (0, 1)]
        stay = [c for c in range(len(self.base.columns)) if became[0][c] is not None and became[1][c] is not None]
        names = {}
        for c in stay:
            base_name = self.base.columns[c]
            changed = [self.tables[side].columns[became[side][c]] for side in (0, 1)]
            new = {name for name in changed if name != base_name}
            if len(new) > 1:
                raise ColumnClash("name")
            names[c] = new.pop() if new else base_name
        sequences = [sorted(stay, key=lambda c, side=side: became[side][c]) for side in (0, 1)]
        moved = [sequence for sequence in sequences if sequence != stay]
        if len(moved) == 2 and moved[0] != moved[1]:
            raise ColumnClash("sequence")
        found = [(names[c], c, became[0][c], became[1][c]) for c in (moved[0] if moved else stay)]
        for side in (0, 1):
            for place, name in enumerate(self.tables[side].columns):
                if place not in became[side]:
                    found.append((name, None, place if side == 0 else None, place if side == 1 else None))
        if len({name for name, _, _, _ in found}) != len(found):
            raise ColumnClash("double")
        if len(found) > 3:
            raise TooMany(3)
        if found == []:
            raise ColumnClash("none")
        return found

    def rows_became(self, joint, i):
        """Return the rows that row i of base became in a joint choice, None for one that went."""
        return [
            None if place is None else table.rows[place]
            for table, place in zip(self.tables, [by_hand.answer(alignment, ("row", i)) for alignment in joint])
        ]

    def disagreement(self, joint):
        total = 0
        for i in range(len(self.base.rows)):
            ours, theirs = self.rows_became(joint, i)
            if (ours is None) != (theirs is None):
                total += self.costs.row
            elif ours is not None:
                for _, base, p, q in self.columns():
                    if base is not None and ours[p] != theirs[q]:
                        total += self.costs.cell
        return total

    def joint_choices(self):
        """Return the least disagreement and the joint choices of it."""
        prices = [(self.disagreement(joint), joint) for joint in product(*self.best)]
        least = min(price for price, _ in prices)
        return least, [joint for price, joint in prices if price == least]

    def left_alone(self, joint, side, i):
        row = self.rows_became(joint, i)[side]
        came = list(range(len(row)))
        for c, place in joint[side][0]:
            came.remove(place)
            if row[place] != self.base.rows[i][c]:
                return False
        return all(row[place] is None for place in came)

    def outcome(self, joint, i):
        ours, theirs = self.rows_became(joint, i)
        before = self.base.rows[i]
        if ours is None and theirs is None:
            return ("gone",)
        if ours is None or theirs is None:
            return ("gone",) if self.left_alone(joint, 1 if ours is None else 0, i) else ("clash",)
        for c in range(len(before)):
            p, q = [by_hand.answer(alignment, ("column", c)) for alignment in joint]
            if p is None and q is not None and theirs[q] != before[c]:
                return ("clash",)
            if q is None and p is not None and ours[p] != before[c]:
                return ("clash",)
            if p is not None and q is not None:
                if ours[p] != before[c] and theirs[q] != before[c] and ours[p] != theirs[q]:
                    return ("clash",)
        cells = []
        for _, base, p, q in self.columns():
            if base is None:
                cells.append(ours[p] if q is None else theirs[q])
            elif ours[p] == before[base]:
                cells.append(theirs[q])
            else:
                assert theirs[q] in (before[base], ours[p])
                cells.append(ours[p])
        return ("row", tuple(cells))

    def came(self, joint, side):
        """Return the places of the rows of a side that came."""
        places = range(len(self.tables[side].rows))
        return [place for place in places if by_hand.is_true(joint[side], "row", None, place)]

    def rows(self, joint):
        """Return the rows of a joint choice, in the usual sequence."""
        outcomes = [self.outcome(joint, i) for i in range(len(self.base.rows))]
        rows = [outcome[1] for outcome in outcomes if outcome[0] == "row"]
        came = []
        for side in (0, 1):
            places = [column[2 + side] for column in self.columns()]
            table = self.tables[side]
            came.append([
                tuple(None if place is None else table.rows[j][place] for place in places)
                for j in self.came(joint, side)
            ])
        for row in {*came[0], *came[1]}:
            rows.extend([row] * max(came[0].count(row), came[1].count(row)))
        return sorted(rows, key=row_key)

    def has_clash(self, joint):
        return any(self.outcome(joint, i) == ("clash",) for i in range(len(self.base.rows)))

    def outcomes(self, joints, i):
        found = {self.outcome(joint, i) for joint in joints}
        rows = sorted([outcome for outcome in found if outcome[0] == "row"], key=lambda outcome: row_key(outcome[1]))
        return tuple(
            [("gone",)] * (("gone",) in found) + rows + [("clash",)] * (("clash",) in found)
        )

    def arrivals(self, joints, side):
        found = []
        for place in range(len(self.tables[side].rows)):
            number = sum(1 for joint in joints if place in self.came(joint, side))
            found.append("always" if number == len(joints) else "sometimes" if number else "never")
        return tuple(found)

    def table(self, joints):
        """Return the rows of the merge and no spots, or None and the spots that are in doubt."""
        rows = [self.rows(joint) for joint in joints]
        if not any(self.has_clash(joint) for joint in joints) and all(found == rows[0] for found in rows):
            return tuple(rows[0]), ()
        told = [self.outcomes(joints, i) for i in range(len(self.base.rows))]
        return None, tuple(
            i for i, outcomes in enumerate(told) if len(outcomes) > 1 or ("clash",) in outcomes
        )

    def shows_doubt(self, joints, pair):
        """Tell whether a pair of pairs of alignments shows a doubt."""
        one, other = pair
        if one not in joints or other not in joints:
            return False
        return self.rows(one) != self.rows(other) or (one == other and self.has_clash(one))


def some_changed_cells(numbers, table):
    """Return a table with other cells, without a row, with a new one, or in another sequence of rows or columns."""
    cells = (1, 2, None, "x")
    rows = [list(row) for row in table.rows]
    names = list(table.columns)
    for _ in range(numbers.below(3)):
        what = numbers.below(7)
        if what < 3 and rows:
            rows[numbers.below(len(rows))][numbers.below(len(names))] = numbers.one_of(cells)
        elif what == 3 and rows:
            del rows[numbers.below(len(rows))]
        elif what == 4:
            rows.append([numbers.one_of(cells) for _ in names])
        elif what == 5 and len(names) > 1:
            at = numbers.below(len(names))
            if numbers.below(2):
                names.reverse()
                rows = [row[::-1] for row in rows]
            else:
                del names[at]
                rows = [row[:at] + row[at + 1:] for row in rows]
        elif what == 6:
            if numbers.below(2) or len(names) == 3:
                names[numbers.below(len(names))] = numbers.one_of([name for name in "abcdef" if name not in names])
            else:
                names.append(numbers.one_of([name for name in "abcdef" if name not in names]))
                rows = [[*row, numbers.one_of(cells)] for row in rows]
    return Table(tuple(names), tuple([tuple(row) for row in rows]))


def some_sides(seed):
    """Return the sides of some merge; in many of them the columns are in doubt, or fit together badly."""
    numbers = by_hand.Numbers(seed)
    base = by_hand.some_table(numbers, 1 + numbers.below(2), numbers.below(4))
    costs = Costs(**by_hand.SOME_COSTS[numbers.below(len(by_hand.SOME_COSTS))])
    sides = [some_changed_cells(numbers, base), some_changed_cells(numbers, base)]
    conditions = [[], []]
    for at in range(seed % 3):
        claims = by_hand.claims(base, sides[at])
        conditions[at].append((*numbers.one_of(claims), numbers.below(2) == 0))
    return Sides(base, *sides, costs, *[tuple(found) for found in conditions])
