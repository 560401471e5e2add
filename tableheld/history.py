"""Histories: the versions of a table, what was said of the steps between them, and what became of things in them."""

from tableheld.alignments import MOST_CONDITIONS, how_many_places, is_condition
from tableheld.comparing import check_kind, check_place, compare
from tableheld.costs import Costs
from tableheld.courses import before, behind, births_of, follow
from tableheld.errors import BadCondition, BadCosts, BadTable, Contradiction, NoSaying, NoStep, NoVersion, TooMany
from tableheld.leasts import can_be_kept
from tableheld.tables import Table
from tableheld.tracks import is_track, settings_of, track_of
from tableheld.trials import Trial
from tableheld.values import is_integer, is_integer_within

MOST_VERSIONS = 12


def check_table(value):
    """Raise BadTable unless a value is a table."""
    if not isinstance(value, Table):
        raise BadTable(value)


def check_costs(value):
    """Raise BadCosts unless a value is costs."""
    if not isinstance(value, Costs):
        raise BadCosts(value)


def check_version(value, least, most):
    """Raise NoVersion unless a value is an integer from least to most."""
    if not is_integer_within(value, least, most):
        raise NoVersion(value)


def conditions_in(sayings):
    """Return the conditions that sayings add to their step."""
    return tuple([saying[2:] for saying in sayings])


def contradicting(one, other, sayings):
    """Return the numbers of those sayings that are left, if each is left out that is not needed for a contradiction."""
    left = sayings
    for saying in sayings:
        fewer = [known for known in left if known != saying]
        if not can_be_kept(one, other, conditions_in(fewer)):
            left = fewer
    return tuple([saying[0] for saying in left])


class History:
    """The versions of a table, each led to by a step, with costs, and with sayings about the steps."""

    def __init__(self, table, costs=None):
        check_table(table)
        if costs is not None:
            check_costs(costs)
        self.tables = (table,)
        self.last = 0
        self.costs = Costs() if costs is None else costs
        self.sayings = ()
        self.next_number = 0
        self.open_trials = 0
        self.comparisons = {}

    def __eq__(self, other):
        # These are what the text of a history tells.
        return (
            isinstance(other, History)
            and self.tables == other.tables
            and self.costs == other.costs
            and self.sayings == other.sayings
            and self.next_number == other.next_number
        )

    def add(self, table):
        """Add a version and return its number."""
        check_table(table)
        if len(self.tables) == MOST_VERSIONS:
            raise TooMany(MOST_VERSIONS)
        self.tables = (*self.tables, table)
        self.last = self.last + 1
        return self.last

    def version(self, number):
        """Return the table of a version."""
        check_version(number, 0, self.last)
        return self.tables[number]

    def recost(self, costs):
        """Set other costs."""
        check_costs(costs)
        self.costs = costs

    def check_step(self, value):
        """Raise NoStep unless a value is the number of a step."""
        if not is_integer_within(value, 1, self.last):
            raise NoStep(value)

    def sayings_of(self, step):
        """Return the list of the sayings of a step."""
        return [saying for saying in self.sayings if saying[1] == step]

    def comparison(self, step):
        """Return the comparison of a step, with the costs and the sayings of now."""
        self.check_step(step)
        now = (self.tables[step - 1], self.tables[step], self.costs, conditions_in(self.sayings_of(step)))
        known = self.comparisons.get(step)
        # What was compared before is told again as long as nothing has changed, as comparing may take long.
        if known is None or (known.one, known.other, known.costs, known.conditions) != now:
            known = compare(*now)
            self.comparisons[step] = known
        return known

    def say(self, step, kind, i, j, truth):
        """Add a condition to a step and return the number of this saying."""
        self.check_step(step)
        one, other = self.tables[step - 1], self.tables[step]
        condition = (kind, i, j, truth)
        if not is_condition(one, other, condition):
            raise BadCondition(condition)
        sayings = self.sayings_of(step)
        if len(sayings) == MOST_CONDITIONS:
            raise TooMany(MOST_CONDITIONS)
        number = self.next_number
        saying = (number, step, kind, i, j, truth)
        together = [*sayings, saying]
        if not can_be_kept(one, other, conditions_in(together)):
            raise Contradiction(contradicting(one, other, together))
        self.sayings = (*self.sayings, saying)
        self.next_number = number + 1
        return number

    def unsay(self, number):
        """Take a saying back."""
        if not is_integer(number) or number not in [saying[0] for saying in self.sayings]:
            raise NoSaying(number)
        self.sayings = tuple([saying for saying in self.sayings if saying[0] != number])

    def check_thing(self, kind, version, i):
        """Raise BadKind, NoVersion or NoPlace unless the values tell a column or row of a version."""
        check_kind(kind)
        check_version(version, 0, self.last)
        check_place(i, how_many_places(self.tables[version], kind))

    def comparisons_back(self, version, earlier):
        """Return the comparisons of the steps from an earlier version to a version, from the last one back."""
        return [self.comparison(step) for step in reversed(range(earlier + 1, version + 1))]

    def origins(self, kind, version, i, earlier):
        """Return the places in an earlier version that a column or row may come from; None behind: it may have come."""
        self.check_thing(kind, version, i)
        check_version(earlier, 0, version)
        return follow(before, self.comparisons_back(version, earlier), kind, i)

    def fates(self, kind, version, i, later):
        """Return the places in a later version that may come from a column or row; None behind: it may have gone."""
        self.check_thing(kind, version, i)
        check_version(later, version, self.last)
        return follow(behind, self.comparisons_back(later, version)[::-1], kind, i)

    def births(self, kind, version, i):
        """Return the versions in which a column or row may stand for the first time."""
        self.check_thing(kind, version, i)
        return births_of(self.comparisons_back(version, 0), kind, i)

    def check_cell(self, version, i, c):
        """Raise NoVersion or NoPlace unless the values tell a cell of a version."""
        check_version(version, 0, self.last)
        check_place(i, len(self.tables[version].rows))
        check_place(c, len(self.tables[version].columns))

    def settings(self, version, i, c):
        """Return the versions since which a cell may have had its value."""
        self.check_cell(version, i, c)
        return settings_of(self.comparisons_back(version, 0), (i, c))

    def track(self, version, i, c, setting):
        """Return evidence that a cell may have had its value since a version, or that it never has."""
        self.check_cell(version, i, c)
        check_version(setting, 0, version)
        return track_of(self.comparisons_back(version, 0), (i, c), setting)

    def trial(self):
        """Return a trial, for a with statement: what its block does to the history stays only if it is kept."""
        return Trial(self)

    def tried(self, deed):
        """Call deed with a trial, in its block, and return what it returns."""
        with self.trial() as trial:
            return deed(trial)


def shows_track(history, version, i, c, setting, value):
    """Tell whether any value is evidence that a cell may have had its value since a version, or that it never has."""
    history.check_cell(version, i, c)
    check_version(setting, 0, version)
    return is_track(history.comparisons_back(version, 0), (i, c), setting, value)
