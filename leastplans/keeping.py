"""Closed sets of units, and which of their marks are asked for outside."""

from leastplans.marks import marks_in_all
from leastplans.unitmarks import row_marks


def marks_in(block, units):
    """The marks that core and left units among them bear, rising."""
    return tuple(sorted({mark for u in units for mark in row_marks(block, u)}))


def is_closed(block, units):
    """True if there is a core unit, and the need of each attachment is borne."""
    if not any(block.units[u].kind == "core" for u in units):
        return False
    marks = marks_in(block, units)
    return all(mark in marks for u in units for mark in block.units[u].need)


def ready(block, units):
    """The places of the tests all of whose marks the units bear."""
    marks = marks_in(block, units)
    found = []
    for at, test in enumerate(block.tests):
        if all(mark in marks for mark in marks_in_all((test,))):
            found.append(at)
    return tuple(found)


def kept(block, units):
    """The marks of a closed set that are asked for beyond it, rising."""
    asked = list(block.groups)
    for u, unit in enumerate(block.units):
        if u not in units:
            asked.extend(unit.need)
            if unit.kind == "core":
                asked.extend(row_marks(block, u))
    done = ready(block, units)
    asked.extend(marks_in_all([test for at, test in enumerate(block.tests) if at not in done]))
    return tuple([mark for mark in marks_in(block, units) if mark in asked])
