"""Courses: where columns and rows come from, and what they become, step by step.

A course chooses one best alignment for each step, whatever it chooses for the others. So what happens in some course is
what can happen from step to step.
"""


def split_none(found):
    """Return the ascending list of the places that are found, and whether None is found."""
    return sorted({place for place in found if place is not None}), None in found


def before(comparison, kind, places):
    """Return the places that these ones may come from, and whether one of them may have come."""
    return split_none([i for j in places for i in comparison.sources(kind, j)])


def behind(comparison, kind, places):
    """Return the places that may come from these ones, and whether one of them may have gone."""
    return split_none([j for i in places for j in comparison.partners(kind, i)])


def follow(onward, comparisons, kind, i):
    """Return the places that a place leads to, and None behind them, if something on the way may have none.

    onward is before, if the comparisons are told from the last one back, or behind, if from the first one on.
    """
    places, alone = [i], False
    for comparison in comparisons:
        places, some_alone = onward(comparison, kind, places)
        alone = alone or some_alone
    return (*places, None) if alone else tuple(places)


def births_of(comparisons, kind, i):
    """Return the versions in which a place may stand for the first time; comparisons are those from the last one back.

    They lead back to version 0, so that there are as many of them as the number of the version.
    """
    places, found = [i], []
    for at, comparison in enumerate(comparisons):
        places, some_came = before(comparison, kind, places)
        if some_came:
            found.append(len(comparisons) - at)
    if places:
        found.append(0)
    return tuple(found[::-1])
