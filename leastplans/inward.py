"""What the inner blocks of a raw block may know of the block around them."""

from leastplans.columnsin import columns_in, replaced
from leastplans.raws import is_table


def copied_in(raw, classes, fixed):
    """For each unit a tuple of conditions over its columns, ("col", 0, c) in them."""
    return tuple([copied_at(raw, classes, fixed, u) for u in range(len(raw.units))])


def copied_at(raw, classes, fixed, u):
    unit = raw.units[u]
    if is_table(unit.source) or unit.source.limit is not None:
        return ()
    if unit.kind != "core":
        return tuple(conds_alone(unit.conds, u))
    pairs, tests = fixed
    own = own_classes(classes, u)
    return tuple(tests_told(tests, classes, own) + values_told(pairs, own) + links_told(own))


def conds_alone(conds, u):
    """The conds with a column and with columns of the unit alone."""
    found = []
    for cond in conds:
        columns = columns_in(cond)
        if columns and all(column[1] == u for column in columns):
            table = {column: ("col", 0, column[2]) for column in columns}
            found.append(replaced(cond, table))
    return found


def own_classes(classes, u):
    """The classes that hold columns of the unit: a dict of their least columns to these places."""
    found = {}
    for one in classes:
        places = [place for at, place in one if at == u]
        if places:
            found[one[0]] = places
    return found


def tests_told(tests, classes, own):
    """The tests that tell something of the unit alone."""
    table = {}
    for one in classes:
        if one[0] in own:
            for at, place in one:
                table[("col", at, place)] = ("col", 0, own[one[0]][0])
    found = []
    for test in tests:
        columns = columns_in(test)
        if columns and all(column in table for column in columns):
            found.append(replaced(test, table))
    return found


def values_told(pairs, own):
    """That the unit's columns of fixed classes have their values."""
    found = []
    for least, value in pairs:
        leaf = ("text", value) if isinstance(value, str) else ("num", value)
        for place in own.get(least, ()):
            found.append(("cmp", "=", ("col", 0, place), leaf))
    return found


def links_told(own):
    """That the unit's columns of one class are equal."""
    found = []
    for least in own:
        first = own[least][0]
        for place in own[least][1:]:
            found.append(("cmp", "=", ("col", 0, first), ("col", 0, place)))
    return found
