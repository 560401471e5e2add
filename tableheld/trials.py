"""Trials: what is done to a history in a block is undone behind it, unless it is kept."""

from tableheld.errors import TooMany

MOST_TRIALS = 4


class Trial:
    """A trial of a history, for a with statement; it holds what the history was when the block began.

    kept is None until the block keeps what it does.
    """

    def __init__(self, history):
        self.history = history
        self.kept = None
        self.tables = ()
        self.last = 0
        self.costs = None
        self.sayings = ()
        self.next_number = 0

    def keep(self):
        """Let stay what is done in the block, if it ends without an error."""
        self.kept = True

    def __enter__(self):
        if self.history.open_trials == MOST_TRIALS:
            raise TooMany(MOST_TRIALS)
        self.history.open_trials += 1
        self.kept = None
        self.tables = self.history.tables
        self.last = self.history.last
        self.costs = self.history.costs
        self.sayings = self.history.sayings
        self.next_number = self.history.next_number
        return self

    def __exit__(self, kind, value, trace):
        history = self.history
        history.open_trials -= 1
        if kind is not None or self.kept is None:
            history.tables = self.tables
            history.last = self.last
            history.costs = self.costs
            history.sayings = self.sayings
            history.next_number = self.next_number
