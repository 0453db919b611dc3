"""Which columns of a raw block are to be equal, and to what; columns are pairs (u, c)."""

from leastplans.columnsin import columns_in
from leastplans.equalities import leaf_and_value, two_leaves


def classes_of(raw):
    """The classes of the mentioned columns, each a rising tuple, rising."""
    class_at = {column: (column,) for column in mentioned(raw)}
    for test in raw.tests:
        link = link_of(raw, test)
        if link is not None and class_at[link[0]] != class_at[link[1]]:
            whole = tuple(sorted(class_at[link[0]] + class_at[link[1]]))
            for column in whole:
                class_at[column] = whole
    return tuple(sorted(set(list(class_at.values()))))


def fixed_of(raw):
    """(fixed, tests): pairs (least column of a class, value), and the other tests but links."""
    least = {column: one[0] for one in classes_of(raw) for column in one}
    values = {}
    tests = []
    for test in raw.tests:
        if link_of(raw, test) is not None:
            continue
        told = leaf_and_value(test, "col")
        if told is None or not is_core(raw, told[0]) or least[told[0][1:]] in values:
            tests.append(test)
        else:
            values[least[told[0][1:]]] = told[1]
    fixed = tuple([(column, values[column]) for column in sorted(values)])
    return (fixed, tuple(tests))


def mentioned(raw):
    """The mentioned columns, a rising tuple."""
    things = list(raw.tests) + list(raw.groups) + list(raw.outs)
    for unit in raw.units:
        things.extend(unit.conds)
    return tuple(sorted({column[1:] for thing in things for column in columns_in(thing)}))


def link_of(raw, test):
    """The two columns of a test that is a link, or None."""
    sides = two_leaves(test, "col")
    if sides is None or sides[0] == sides[1]:
        return None
    if not is_core(raw, sides[0]) or not is_core(raw, sides[1]):
        return None
    return (sides[0][1:], sides[1][1:])


def is_core(raw, leaf):
    return raw.units[leaf[1]].kind == "core"
