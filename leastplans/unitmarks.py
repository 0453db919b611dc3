"""The marks of the units of a block."""

from leastplans.equalities import leaf_and_value, two_leaves


def mark_of(unit, place):
    """The mark of a column of a unit, None if it has none."""
    for at, mark in unit.cols:
        if at == place:
            return mark
    return None


def bound_of(block, u):
    """The bound marks of an attachment with their values, rising; () for a core unit."""
    unit = block.units[u]
    values = {}
    for cond in unit.own:
        told = leaf_and_value(cond, "mark")
        if told is not None and told[0][1] not in values:
            values[told[0][1]] = told[1]
    return tuple([(mark, values[mark]) for mark in sorted(values)])


def pairs_of(block, u):
    """The pairs (mark of the need, own mark) of an attachment; () for a core unit."""
    unit = block.units[u]
    found = []
    for tie in unit.ties:
        sides = two_leaves(tie, "mark")
        if sides is not None:
            one, other = sides[0][1], sides[1][1]
            if one in unit.need and other not in unit.need:
                found.append((one, other))
            elif other in unit.need and one not in unit.need:
                found.append((other, one))
    return tuple(found)


def row_marks(block, u):
    """The marks of a core or left unit, rising; () for a semi or anti unit."""
    unit = block.units[u]
    if unit.kind in ("semi", "anti"):
        return ()
    return tuple(sorted({mark for _, mark in unit.cols}))


def has_table(unit):
    """True if the source of a unit is a table."""
    return isinstance(unit.source, str)
