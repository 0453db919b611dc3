"""Which rows of the source of a unit a leaf step takes, and what they give."""

from leastplans.folds import single
from leastplans.keeping import ready
from leastplans.ranks import equal
from leastplans.worths import mark_truth


class Taker:
    """Takes rows of the source of one unit."""

    def __init__(self, block, u):
        unit = block.units[u]
        self.cols = unit.cols
        self.marks = sorted({mark for _, mark in unit.cols})
        self.aggs = [(fn, place if own == u else None) for fn, own, place in block.aggs]
        if unit.kind == "core":
            self.fixed = dict(block.fixed)
            self.conds = [block.tests[at] for at in ready(block, (u,))]
        else:
            self.fixed = {}
            self.conds = unit.own

    def row_taken(self, row):
        """The weighted row that a row gives, None if it is not taken."""
        worth = {}
        for place, mark in self.cols:
            for other in (self.fixed, worth):
                if mark in other and not equal(row[place], other[mark]):
                    return None
            worth[mark] = row[place]
        if not all(mark_truth(cond, worth, ()) is True for cond in self.conds):
            return None
        folds = [None if place is None else single(fn, row[place]) for fn, place in self.aggs]
        return (tuple([worth[mark] for mark in self.marks]), 1, tuple(folds))


def leaf_row(block, u, row):
    """The weighted row that a row of the source of a unit gives, None if it is not taken."""
    return Taker(block, u).row_taken(row)


def rows_taken(block, u, rows):
    """The weighted rows that rows of the source of a unit give, those that are taken."""
    taker = Taker(block, u)
    found = [taker.row_taken(row) for row in rows]
    return [row for row in found if row is not None]
