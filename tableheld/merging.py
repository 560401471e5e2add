"""Merging two tables that both come from a third one: what is so in all best alignments, and what is in doubt."""

from tableheld.comparing import check_place, compare, places_of
from tableheld.errors import BadSide, Doubt
from tableheld.headings import merged_columns
from tableheld.joints import START, Joints
from tableheld.outcomes import CLASH, GONE, RowMaker
from tableheld.sides import Side
from tableheld.tables import Table, usual_sequence

SIDES = ("ours", "theirs")


class Merge:
    """The merge of two sides.

    In here, a choice is the list of the fates of all rows of base in a joint choice.
    """

    def __init__(self, sides, costs):
        columns = merged_columns(sides[0], sides[1])
        self.columns = tuple([column.name for column in columns])
        self.sides = sides
        self.maker = RowMaker(sides, columns)
        our_fates, their_fates = [[*places_of(side.changed, "row"), None] for side in sides]
        self.prices = {(j, k): self.maker.price((j, k), costs) for j in our_fates for k in their_fates}
        self.joints = Joints(sides[0].choices, sides[1].choices, self.prices)
        # For each row of base, a dict of the fates that it has in joint choices that count, and its outcomes then.
        self.made = [
            {fates: self.maker.outcome(i, fates) for fates in self.joints.fates_at(i)}
            for i in places_of(sides[0].base, "row")
        ]

    def disagreement(self):
        """Return the disagreement of the joint choices that count."""
        return self.joints.least

    def outcomes(self, i):
        """Return all outcomes of a row of base."""
        check_place(i, len(self.made))
        found = list(self.made[i].values())
        rows = {outcome[1]: True for outcome in found if outcome not in (GONE, CLASH)}
        gone, clash = [[outcome] if outcome in found else [] for outcome in (GONE, CLASH)]
        return (*gone, *[("row", row) for row in usual_sequence(list(rows))], *clash)

    def arrivals(self, side):
        """Return for each row of a side whether it came always, sometimes or never."""
        if side not in SIDES:
            raise BadSide(side)
        at = SIDES.index(side)
        came = [self.places_that_came(end)[at] for end in self.joints.ends]
        found = []
        for j in places_of(self.sides[at].changed, "row"):
            number = len([places for places in came if j in places])
            found.append("never" if number == 0 else "always" if number == len(came) else "sometimes")
        return tuple(found)

    def places_that_came(self, end):
        """Return two lists of the rows that came, of ours and of theirs, if this is taken of both sides."""
        return [side.choices.left_over(taken) for side, taken in zip(self.sides, end)]

    def rows_with(self, outcomes, others):
        """Return the rows of outcomes and others, in the usual sequence."""
        return usual_sequence([*[outcome[1] for outcome in outcomes if outcome not in (GONE, CLASH)], *others])

    def rows_of(self, choice):
        """Return the rows of a joint choice, in the usual sequence."""
        places = []
        for at, side in enumerate(self.sides):
            taken = [fates[at] for fates in choice]
            places.append([j for j in places_of(side.changed, "row") if j not in taken])
        outcomes = [self.made[i][fates] for i, fates in enumerate(choice)]
        return self.rows_with(outcomes, self.maker.rows_that_came(places))

    def has_clash(self, choice):
        """Tell whether a row of base has a clash in a joint choice."""
        return CLASH in [self.made[i][fates] for i, fates in enumerate(choice)]

    def choice_with_clash(self):
        """Return a joint choice that has a clash, or None if none has."""
        for i, layer in enumerate(self.joints.layers):
            for state, moves in layer.items():
                for fates, then in moves:
                    if self.made[i][fates] == CLASH:
                        return self.joints.choice_with(i, state, (fates, then))
        return None

    def unlike_choices(self):
        """Return a list of two joint choices with different rows, or of none if all have the same; none has a clash.

        Wherever two ways lead on from one state, a way to it leads on to both: so the rows from each state on must be
        the same, whatever the way.
        """
        ends = self.joints.ends
        rows = {end: self.rows_with([], self.maker.rows_that_came(self.places_that_came(end))) for end in ends}
        for i in reversed(range(len(self.made))):
            ahead = {}
            for state, moves in self.joints.layers[i].items():
                ways = [self.rows_with([self.made[i][fates]], rows[then]) for fates, then in moves]
                for at, found in enumerate(ways):
                    if found != ways[0]:
                        return [self.joints.choice_with(i, state, moves[k]) for k in (0, at)]
                ahead[state] = ways[0]
            rows = ahead
        return []

    def doubt(self):
        """Return two joint choices, as alignments, that show why there is no table of the merge; None if there is."""
        clashing = self.choice_with_clash()
        if clashing is not None:
            return (self.alignments_of(clashing), self.alignments_of(clashing))
        unlike = self.unlike_choices()
        return tuple([self.alignments_of(choice) for choice in unlike]) if unlike else None

    def alignments_of(self, choice):
        """Return a joint choice as a pair of alignments."""
        return tuple([
            (side.pairs, tuple([(i, fates[at]) for i, fates in enumerate(choice) if fates[at] is not None]))
            for at, side in enumerate(self.sides)
        ])

    def table(self):
        """Return the table of the merge."""
        if self.doubt() is not None:
            told = [self.outcomes(i) for i in range(len(self.made))]
            raise Doubt(tuple([i for i, outcomes in enumerate(told) if len(outcomes) > 1 or CLASH in outcomes]))
        # Whichever joint choice it is, the rows are the same.
        return Table(self.columns, self.rows_of(self.joints.way_on(0, START)))

    def is_joint_choice(self, value):
        """Tell whether any value is a joint choice that counts, as a pair of alignments."""
        if not isinstance(value, tuple) or len(value) != len(self.sides):
            return False
        if not all([side.compared.is_best(alignment) for side, alignment in zip(self.sides, value)]):
            return False
        return sum([self.prices[fates] for fates in self.choice_of(value)]) == self.joints.least

    def choice_of(self, alignments):
        """Return a joint choice that is a pair of alignments as a list of fates."""
        ours, theirs = [dict(rows) for _, rows in alignments]
        return [(ours.get(i), theirs.get(i)) for i in range(len(self.made))]


def merge(base, ours, theirs, costs, *, for_ours=(), for_theirs=()):
    """Return the merge of two tables that both come from base; the conditions are for base and each of them."""
    compared = [compare(base, ours, costs, for_ours), compare(base, theirs, costs, for_theirs)]
    return Merge(tuple([Side(name, comparison) for name, comparison in zip(SIDES, compared)]), costs)


def shows_doubt(merged, value):
    """Tell whether any value is two joint choices that count, with different rows, or twice one that has a clash."""
    if not isinstance(value, tuple) or len(value) != 2:
        return False
    if not all([merged.is_joint_choice(choice) for choice in value]):
        return False
    one, other = [merged.choice_of(choice) for choice in value]
    return merged.rows_of(one) != merged.rows_of(other) or (one == other and merged.has_clash(one))
