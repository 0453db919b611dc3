"""The values by which rows are found in an index."""

from leastplans.leafsteps import index_places
from leastplans.unitmarks import mark_of


def told_values(sizes, u):
    """A dict of the marks of a unit whose values the block tells: fixed, or of an attachment bound."""
    block = sizes.block
    return dict(block.fixed if block.units[u].kind == "core" else sizes.bound_at(u))


def seek_values(sizes, u, ixname, many):
    """The told values of the first columns of an index."""
    values = told_values(sizes, u)
    unit = sizes.block.units[u]
    places = index_places(unit, ixname)[:many]
    return tuple([values[mark_of(unit, place)] for place in places])


class Asker:
    """Tells by which values of the first columns of an index a look finds rows for a left row."""

    def __init__(self, sizes, left_state, u, ixname, many):
        unit = sizes.block.units[u]
        marks = sizes.seen_at(left_state)
        values = told_values(sizes, u)
        self.sources = []
        for place in index_places(unit, ixname)[:many]:
            mark = mark_of(unit, place)
            if mark in values:
                self.sources.append((None, values[mark]))
            else:
                self.sources.append((marks.index(left_mark(sizes, u, mark)), None))

    def values_for(self, left):
        """The values, None if one of them is null."""
        told = [value if at is None else left[0][at] for at, value in self.sources]
        return None if None in told else tuple(told)


def left_mark(sizes, u, mark):
    """The mark of a left row that tells the value of a mark of a unit."""
    if sizes.block.units[u].kind == "core":
        return mark
    return [one for one, other in sizes.pairs_at(u) if other == mark][0]
