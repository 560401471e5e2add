"""Since when a cell has had its value: the versions that may be, and evidence for each that it may be, or never is.

Cells are tuples (row, column) of places. Comparisons are told from the last one back, as a cell is followed this way.
"""

from tableheld.values import is_place


def is_set_in(comparison, cell, source):
    """Tell whether a cell with this source (None for what came) got its value in this step."""
    i, c = source
    j, d = cell
    return i is None or c is None or comparison.one.rows[i][c] != comparison.other.rows[j][d]


def setting_steps(comparison, cells):
    """Return tuples (cell, source) of those of the cells that got their value in this step in some best alignment."""
    return [
        (cell, source)
        for cell in cells
        for source in comparison.cell_sources(*cell)
        if is_set_in(comparison, cell, source)
    ]


def sources_with_value(comparison, cell):
    """Return the cells that a cell comes from in some best alignment, having had its value there."""
    return [source for source in comparison.cell_sources(*cell) if not is_set_in(comparison, cell, source)]


def lists_of(comparisons, cell):
    """Return a list of cells ahead of each comparison, and behind the last one: those that lead to this one.

    In some course they are where this cell comes from, having had its value since.
    """
    lists = [[cell]]
    for comparison in comparisons:
        later = lists[-1]
        cells = sorted({source for known in later for source in sources_with_value(comparison, known)})
        lists.append(cells)
    return lists


def is_setting(comparisons, lists, setting):
    """Tell whether a cell with these lists may have been set in a version; the comparisons lead back to version 0."""
    at = len(comparisons) - setting
    return lists[at] != [] if setting == 0 else setting_steps(comparisons[at], lists[at]) != []


def settings_of(comparisons, cell):
    """Return the settings of a cell; the comparisons lead back to version 0."""
    lists = lists_of(comparisons, cell)
    return tuple([v for v in range(len(comparisons) + 1) if is_setting(comparisons, lists, v)])


def example_of(comparison, cell, source):
    """Return a best alignment in which a cell has this source."""
    i, c = source
    j, d = cell
    return comparison.example(i, j, c, d)


def alignments_of(comparisons, lists, setting):
    """Return the alignments along which a cell with these lists has its value since a version that may be its setting.

    They are found from the setting on, since each cell in a list leads on to the last version.
    """
    at = len(comparisons) - setting
    known, found = lists[at][0], []
    if setting > 0:
        known, source = setting_steps(comparisons[at], lists[at])[0]
        found.append(example_of(comparisons[at], known, source))
    for k in reversed(range(at)):
        later = [cell for cell in lists[k] if known in sources_with_value(comparisons[k], cell)][0]
        found.append(example_of(comparisons[k], later, known))
        known = later
    return tuple(found[::-1])


def track_of(comparisons, cell, setting):
    """Return evidence that a version is a setting of a cell, or that it is not; the comparisons lead to version 0."""
    lists = lists_of(comparisons, cell)
    if is_setting(comparisons, lists, setting):
        return ("may", alignments_of(comparisons, lists, setting))
    down = lists[:len(comparisons) - setting + 1]
    return ("never", tuple([tuple(known) for known in down]))


def is_track(comparisons, cell, setting, value):
    """Tell whether any value is evidence that a version is a setting of a cell, or that it is not."""
    if not isinstance(value, tuple) or len(value) != 2 or not isinstance(value[1], tuple):
        return False
    if value[0] == "may":
        return shows_may(comparisons, cell, setting, value[1])
    return value[0] == "never" and shows_never(comparisons, cell, setting, value[1])


def source_in(alignment, cell):
    """Return what a cell comes from in an alignment; None for what came."""
    columns, rows = [{after: ahead for ahead, after in pairs} for pairs in alignment]
    j, d = cell
    return rows.get(j), columns.get(d)


def shows_may(comparisons, cell, setting, alignments):
    """Tell whether the members of a tuple are best alignments along which a cell has its value since a version."""
    # If the setting is 0, these are all comparisons.
    steps = comparisons[:len(comparisons) - setting + 1]
    if len(alignments) != len(steps):
        return False
    known = cell
    for at, comparison in enumerate(steps):
        if not comparison.is_best(alignments[at]):
            return False
        source = source_in(alignments[at], known)
        # It is set in the step to the setting, and in none behind it.
        if is_set_in(comparison, known, source) != (len(comparisons) - at == setting):
            return False
        known = source
    return True


def is_cell_place(table, value):
    """Tell whether any value is a tuple of the places of a row and of a column of a table."""
    if not isinstance(value, tuple) or len(value) != 2:
        return False
    return is_place(value[0], len(table.rows)) and is_place(value[1], len(table.columns))


def is_list(table, value):
    """Tell whether any value is an ascending tuple of places of cells of a table."""
    if not isinstance(value, tuple) or not all([is_cell_place(table, member) for member in value]):
        return False
    return all([value[k - 1] < value[k] for k in range(1, len(value))])


def shows_never(comparisons, cell, setting, lists):
    """Tell whether the members of a tuple are lists of cells that lead to a cell, none of them set in a version."""
    steps = comparisons[:len(comparisons) - setting + 1]
    if len(lists) != len(comparisons) - setting + 1:
        return False
    # If the setting is 0, there is a list more than steps: that of version 0, in which there must be no cell.
    if setting == 0 and lists[-1] != ():
        return False
    if not all([is_list(comparison.other, known) for comparison, known in zip(steps, lists)]) or cell not in lists[0]:
        return False
    for comparison, known, ahead in zip(steps, lists, lists[1:]):
        if not all([source in ahead for member in known for source in sources_with_value(comparison, member)]):
            return False
    return setting_steps(steps[-1], lists[-1]) == []
