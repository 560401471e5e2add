"""The least that rows can cost together beside one pairing of the columns, and all choices of fates at this cost."""

# More than any alignment costs: those of the greatest tables, at the greatest costs, are far below it.
FORBIDDEN = 1000000


class Choices:
    """Fates for rows 0 to many - 1, one by one, and for those of the other table, so that each has exactly one.

    allowed is a dict of the allowed fates and their costs; the others count as FORBIDDEN each, so that there always is
    a least cost. It is below FORBIDDEN exactly if the allowed ones suffice.

    The rows of the other table that are taken already are the bits of a number, taken.
    """

    def __init__(self, allowed, many, many_other):
        self.allowed = allowed
        self.many = many
        self.many_other = many_other
        self.rest = self.rest_costs()
        self.least = self.rest[0][0]

    def fate_cost(self, i, j):
        """Return the cost of a fate."""
        return self.allowed.get((i, j), FORBIDDEN)

    def left_over(self, taken):
        """Return the places of the other table that are not taken."""
        return [j for j in range(self.many_other) if not taken >> j & 1]

    def options(self, i, taken):
        """Return tuples (j, what is taken then, cost) for all that may become of row i."""
        found = [(j, taken | 1 << j, self.fate_cost(i, j)) for j in self.left_over(taken)]
        return [*found, (None, taken, self.fate_cost(i, None))]

    def rest_costs(self):
        """Return, for each row and each number of what is taken, what it and those behind it cost at least.

        Behind the last row are those that come.
        """
        all_taken = range(1 << self.many_other)
        behind = [sum([self.fate_cost(None, j) for j in self.left_over(taken)]) for taken in all_taken]
        rest = [behind]
        for i in reversed(range(self.many)):
            behind = [min([cost + behind[then] for _, then, cost in self.options(i, taken)]) for taken in all_taken]
            rest.append(behind)
        return rest[::-1]

    def steps(self, i, taken):
        """Return tuples (j, what is taken then) for what becomes of row i where the rest costs the least."""
        least, behind = self.rest[i][taken], self.rest[i + 1]
        return [(j, then) for j, then, cost in self.options(i, taken) if cost + behind[then] == least]

    def first(self):
        """Return the pairs of one choice of the least cost."""
        pairs, taken = [], 0
        for i in range(self.many):
            j, taken = self.steps(i, taken)[0]
            if j is not None:
                pairs.append((i, j))
        return tuple(pairs)

    def bounds(self):
        """Return two tuples of integers, for the rows of both tables, that show that no choice costs less.

        No fate costs less than the integers of its places together; all of them together are the least cost.
        """
        partners = {j: i for i, j in self.first()}
        left = [self.fate_cost(i, None) for i in range(self.many)]
        while True:
            right = [self.fate_cost(None, j) for j in range(self.many_other)]
            for j, i in partners.items():
                right[j] = self.fate_cost(i, j) - left[i]
            lower = [self.bound_of(i, right) for i in range(self.many)]
            # This is a search for shortest ways: as no choice costs less than the first, it comes to an end.
            if lower == left:
                return tuple(left), tuple(right)
            left = lower

    def bound_of(self, i, right):
        """Return the greatest integer for row i beside those of the other table."""
        pairs = [self.fate_cost(i, j) - right[j] for j in range(self.many_other)]
        return min([self.fate_cost(i, None), *pairs])

    def ways_to(self):
        """Return, for each row, a dict of what can be taken before it, and in how many ways; last, behind all rows."""
        ways = [{0: 1}]
        for i in range(self.many):
            behind = {}
            for taken, number in ways[i].items():
                for _, then in self.steps(i, taken):
                    behind[then] = behind.get(then, 0) + number
            ways.append(behind)
        return ways

    def ways_on(self, ways):
        """Return likewise in how many ways it can go on from there."""
        behind = {taken: 1 for taken in ways[self.many]}
        found = [behind]
        for i in reversed(range(self.many)):
            behind = {taken: sum([behind[then] for _, then in self.steps(i, taken)]) for taken in ways[i]}
            found.append(behind)
        return found[::-1]

    def how_many(self):
        """Return how many choices of the least cost there are."""
        return sum(list(self.ways_to()[self.many].values()))

    def numbers_of_fates(self):
        """Return a dict of the fates in choices of the least cost, and in how many of these each one is."""
        ways = self.ways_to()
        on = self.ways_on(ways)
        found = {}
        for i in range(self.many):
            for taken, number in ways[i].items():
                for j, then in self.steps(i, taken):
                    found[(i, j)] = found.get((i, j), 0) + number * on[i + 1][then]
        for taken, number in ways[self.many].items():
            for j in self.left_over(taken):
                found[(None, j)] = found.get((None, j), 0) + number
        return found

    def unlike_rows(self, answers):
        """Return each set of rows that a choice of the least cost answers otherwise, as bits of a number, ascending."""
        found = {(0, 0): True}
        for i in range(self.many):
            behind = {}
            for taken, unlike in found:
                for j, then in self.steps(i, taken):
                    behind[(then, unlike if j == answers[i] else unlike | 1 << i)] = True
            found = behind
        return sorted({unlike for _, unlike in found})
