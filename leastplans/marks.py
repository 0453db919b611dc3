"""The marks that stand in conditions and expressions."""

from leastplans.columnsin import leaves_of


def marks_in_all(things):
    """The marks in some conditions or expressions, a rising tuple."""
    leaves = [leaf for thing in things for leaf in leaves_of(thing)]
    return tuple(sorted({leaf[1] for leaf in leaves if leaf[0] == "mark"}))
