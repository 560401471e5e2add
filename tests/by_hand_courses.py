"""What the tests work out themselves about histories: they go through all courses, one by one.

The best alignments of each step come from by_hand; nothing here asks the program but for versions, costs and sayings.
"""

from itertools import product

import by_hand
from tableheld.costs import Costs
from tableheld.history import History


def best_of_steps(history):
    """Return for each step all best alignments, as a list; the first one is for step 1."""
    found = []
    for step in range(1, history.last + 1):
        conditions = [saying[2:] for saying in history.sayings if saying[1] == step]
        one, other = history.version(step - 1), history.version(step)
        found.append(by_hand.best(one, other, history.costs, conditions)[1])
    return found


def all_courses(history):
    """Return all courses: each has for each step an alignment."""
    return list(product(*best_of_steps(history)))


def pairs_of(alignment, kind):
    return alignment[("column", "row").index(kind)]


def source(alignment, kind, j):
    """Return the place that j comes from, None if it came."""
    return {b: a for a, b in pairs_of(alignment, kind)}.get(j)


def origins(courses, kind, version, i, earlier):
    found = set()
    for course in courses:
        place = i
        for step in range(version, earlier, -1):
            place = source(course[step - 1], kind, place)
            if place is None:
                break
        found.add(place)
    return tuple(sorted(found - {None})) + ((None,) if None in found else ())


def fates(courses, kind, version, i, later):
    found = set()
    for course in courses:
        place = i
        for step in range(version + 1, later + 1):
            place = by_hand.answer(course[step - 1], (kind, place))
            if place is None:
                break
        found.add(place)
    return tuple(sorted(found - {None})) + ((None,) if None in found else ())


def birth(course, kind, version, i):
    place = i
    for step in range(version, 0, -1):
        place = source(course[step - 1], kind, place)
        if place is None:
            return step
    return 0


def births(courses, kind, version, i):
    return tuple(sorted({birth(course, kind, version, i) for course in courses}))


def setting(history, alignments, version, i, c):
    """Return since when a cell has its value, along alignments for each step from version down, for want of one: None.

    If there is no alignment for a step, its version is not the setting as far as these alignments tell.
    """
    row, column, at = i, c, version
    for alignment in alignments:
        row_before, column_before = source(alignment, "row", row), source(alignment, "column", column)
        if row_before is None or column_before is None:
            return at
        before, now = history.version(at - 1).rows[row_before][column_before], history.version(at).rows[row][column]
        if before != now:
            return at
        row, column, at = row_before, column_before, at - 1
    return 0 if at == 0 else None


def settings(history, courses, version, i, c):
    return tuple(sorted({setting(history, course[:version][::-1], version, i, c) for course in courses}))


def shows_may(history, best, version, i, c, told, alignments):
    """Tell whether a tuple of alignments is evidence for a setting; best has the best alignments of each step."""
    steps = range(version, max(told, 1) - 1, -1) if version else ()
    if len(alignments) != len(steps):
        return False
    if not all(found in best[step - 1] for step, found in zip(steps, alignments)):
        return False
    return setting(history, alignments, version, i, c) == told


def shows_never(history, best, version, i, c, told, lists):
    """Tell whether a tuple of lists of places is evidence against a setting."""
    versions = range(version, told - 1, -1)
    if len(lists) != len(versions) or (i, c) not in lists[0]:
        return False
    for at, known in zip(versions, lists):
        table = history.version(at)
        if list(known) != sorted(set(known)):
            return False
        if not all(0 <= row < len(table.rows) and 0 <= column < len(table.columns) for row, column in known):
            return False
    for k, at in enumerate(versions[:-1]):
        for alignment in best[at - 1]:
            for row, column in lists[k]:
                before = (source(alignment, "row", row), source(alignment, "column", column))
                # It is set in this step, or leads on.
                if setting(history, [alignment], at, row, column) != at and before not in lists[k + 1]:
                    return False
    if told == 0:
        return lists[-1] == ()
    return not any(
        setting(history, [alignment], told, row, column) == told
        for alignment in best[told - 1] for row, column in lists[-1]
    )


def some_history(seed, length=3, most=3):
    """Return a short history; some of them have sayings."""
    numbers = by_hand.Numbers(seed)
    width = 1 + numbers.below(2)
    history = History(
        by_hand.some_table(numbers, width, numbers.below(most + 1)),
        Costs(**by_hand.SOME_COSTS[numbers.below(len(by_hand.SOME_COSTS))]),
    )
    for number in range(length):
        before = history.version(number)
        if numbers.below(4) == 0 and number > 0:
            history.add(history.version(number - 1))
        else:
            history.add(by_hand.some_changed(numbers, before, numbers.below(most + 1)))
    for _ in range(seed % 3):
        step = 1 + numbers.below(length)
        claims = by_hand.claims(history.version(step - 1), history.version(step))
        claim = numbers.one_of(claims)
        conditions = [saying[2:] for saying in history.sayings if saying[1] == step]
        new = (*claim, numbers.below(2) == 0)
        if by_hand.best(history.version(step - 1), history.version(step), history.costs, [*conditions, new])[1]:
            history.say(step, *new)
    return history
