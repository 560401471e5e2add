"""Joint choices of two sides of a merge: those of the least price, found without going through all of them."""

START = (0, 0)


def states_behind(layer):
    """Return the list of the states that the moves of a layer lead to, each once."""
    return list({then: True for moves in layer.values() for _, then in moves})


class Joints:
    """All pairs of choices, one for each side, of the least price that two choices have together.

    They go through the rows of base, one by one. What is taken of both sides by then is a state: bits of two numbers.
    A layer is a dict of states before a row, and for each of them a list of moves (fates, state behind the row).
    prices is a dict of the fates and what they add to the price.
    """

    def __init__(self, ours, theirs, prices):
        self.ours = ours
        self.theirs = theirs
        self.prices = prices
        layers = self.all_layers()
        rest = self.rest_prices(layers)
        self.least = rest[0].get(START, 0)
        self.layers = self.cheapest(layers, rest)
        self.ends = states_behind(self.layers[-1]) if self.layers else [START]

    def moves(self, i, state):
        """Return all moves of row i from a state that lead on to choices of both sides."""
        taken, also_taken = state
        return [
            ((j, k), (then, also_then))
            for j, then in self.ours.steps(i, taken)
            for k, also_then in self.theirs.steps(i, also_taken)
        ]

    def all_layers(self):
        """Return the layers of all pairs of choices, whatever their price."""
        layers, states = [], [START]
        for i in range(self.ours.many):
            layer = {state: self.moves(i, state) for state in states}
            layers.append(layer)
            states = states_behind(layer)
        return layers

    def rest_prices(self, layers):
        """Return for each layer a dict of its states and the least price from there on; behind all rows it is 0."""
        rest = [{}]
        for layer in reversed(layers):
            behind = rest[-1]
            rest.append({
                state: min([self.prices[fates] + behind.get(then, 0) for fates, then in moves])
                for state, moves in layer.items()
            })
        return rest[::-1]

    def cheapest(self, layers, rest):
        """Return the layers of the pairs of choices of the least price."""
        kept, states = [], [START]
        for i, layer in enumerate(layers):
            now = {}
            for state in states:
                now[state] = [
                    (fates, then)
                    for fates, then in layer[state]
                    if self.prices[fates] + rest[i + 1].get(then, 0) == rest[i][state]
                ]
            kept.append(now)
            states = states_behind(now)
        return kept

    def fates_at(self, i):
        """Return the list of all fates of row i, each once."""
        return list({fates: True for moves in self.layers[i].values() for fates, _ in moves})

    def way_to(self, i, state):
        """Return a list of fates of the rows ahead of i that leads to a state."""
        way, known = [], state
        for layer in reversed(self.layers[:i]):
            fates, known = [
                (some, before) for before, moves in layer.items() for some, then in moves if then == known
            ][0]
            way.append(fates)
        return way[::-1]

    def way_on(self, i, state):
        """Return a list of fates of the rows from i on that goes on from a state."""
        way, known = [], state
        for layer in self.layers[i:]:
            fates, known = layer[known][0]
            way.append(fates)
        return way

    def choice_with(self, i, state, move):
        """Return the fates of all rows in a joint choice with this move of row i from a state."""
        fates, then = move
        return [*self.way_to(i, state), fates, *self.way_on(i + 1, then)]
