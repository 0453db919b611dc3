"""How rows lie."""

from leastplans.entries import entries_of
from leastplans.ranks import rank_row


def laid(rows, row, places):
    """The rows, a list, with a new one behind all those that do not rank above it."""
    own = rank_row(row, places)
    behind = len([other for other in rows if rank_row(other, places) <= own])
    return [*rows[:behind], row, *rows[behind:]]


def laid_anew(rows, places):
    """The rows, a list, in sequence by rank; those with one rank keep their sequence."""
    return [rows[at] for at in entries_of(rows, places)]
