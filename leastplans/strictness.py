"""What truths a condition may have if a unit has nothing but nulls."""

from leastplans.columnsin import columns_in
from leastplans.trees import parts_of
from leastplans.truths import both, either, negated, perhaps

TRUTHS = (True, False, None)


def possible(cond, unit):
    """Three bools: may the condition be True, be False, be unknown?"""
    found = truths_of(cond, unit)
    return tuple([truth in found for truth in TRUTHS])


def never_on_nulls(cond, unit):
    """True if the condition is never true where the unit has nothing but nulls."""
    return not possible(cond, unit)[0]


def truths_of(cond, unit):
    """The possible truths, a list with each one once."""
    tag = cond[0]
    if tag in ("cmp", "null"):
        return truths_alone(tag, has_column_of(cond, unit))
    sides = [truths_of(part, unit) for part in parts_of(cond)]
    if tag == "not":
        found = [negated(truth) for truth in sides[0]]
    elif tag == "maybe":
        found = [perhaps(truth) for truth in sides[0]]
    else:
        join = both if tag == "and" else either
        found = [join(one, other) for one in sides[0] for other in sides[1]]
    return [truth for truth in TRUTHS if truth in found]


def truths_alone(tag, is_touched):
    """Those of a comparison or a null, by whether a column of the unit stands in it."""
    if tag == "cmp":
        return [None] if is_touched else [True, False, None]
    return [True] if is_touched else [True, False]


def has_column_of(cond, unit):
    return any(column[1] == unit for column in columns_in(cond))
