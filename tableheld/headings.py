"""The columns of a merge: which of base stay, which came, their names and their sequence."""

from tableheld.comparing import places_of
from tableheld.errors import ColumnClash, TooMany
from tableheld.tables import MOST_COLUMNS


class Column:
    """A column of a merge: its name, its place in base, and a tuple of its places on both sides; None where it is not.

    A column that stays has all three places, one that came has one.
    """

    def __init__(self, name, in_base, on_sides):
        self.name = name
        self.in_base = in_base
        self.on_sides = on_sides


def staying(ours, theirs):
    """Return the list of the columns of base that stay."""
    return [c for c in places_of(ours.base, "column") if ours.became[c] is not None and theirs.became[c] is not None]


def merged_name(ours, theirs, c):
    """Return the name of a column that stays."""
    before, our_name, their_name = ours.base.columns[c], ours.name_of(c), theirs.name_of(c)
    if their_name in (before, our_name):
        return our_name
    if our_name != before:
        raise ColumnClash("name")
    return their_name


def merged_sequence(ours, theirs, stays):
    """Return the columns of base that stay in the sequence that they have in the merge."""
    our_sequence, their_sequence = ours.in_sequence(stays), theirs.in_sequence(stays)
    if their_sequence in (stays, our_sequence):
        return our_sequence
    if our_sequence != stays:
        raise ColumnClash("sequence")
    return their_sequence


def merged_columns(ours, theirs):
    """Return the list of the columns of the merge of two sides."""
    stays = staying(ours, theirs)
    names = {c: merged_name(ours, theirs, c) for c in stays}
    sequence = merged_sequence(ours, theirs, stays)
    found = [Column(names[c], c, (ours.became[c], theirs.became[c])) for c in sequence]
    found.extend([Column(ours.changed.columns[d], None, (d, None)) for d in ours.came])
    found.extend([Column(theirs.changed.columns[d], None, (None, d)) for d in theirs.came])
    if len({column.name for column in found}) < len(found):
        raise ColumnClash("double")
    if len(found) > MOST_COLUMNS:
        raise TooMany(MOST_COLUMNS)
    if not found:
        raise ColumnClash("none")
    return found
