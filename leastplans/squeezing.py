"""How weighted rows are squeezed together, and what a top makes of them."""

from leastplans.folds import added, empty
from leastplans.worths import mark_truth, mark_value


class Squeezer:
    """Squeezes rows of a state of some units: those alike in kept of the units become one."""

    def __init__(self, sizes, units, marks):
        self.places = [marks.index(mark) for mark in sizes.kept_at(units)]
        self.fns = [fn for fn, _, _ in sizes.block.aggs]

    def key_of(self, row):
        """The values that rows share which become one."""
        return tuple([row[0][place] for place in self.places])

    def with_row(self, whole, row):
        """What has become one so far, None at first, with one more row."""
        if whole is None:
            return (self.key_of(row), row[1], row[2])
        folds = [added(fn, one, other) for fn, one, other in zip(self.fns, whole[2], row[2])]
        return (whole[0], whole[1] + row[1], tuple(folds))

    def squeezed_rows(self, rows):
        """The rows that become of rows, in sequence of the first ones."""
        found = {}
        for row in rows:
            key = self.key_of(row)
            found[key] = self.with_row(found.get(key), row)
        return list(found.values())


class Giver:
    """Makes rows of outputs of the rows of a whole state."""

    def __init__(self, block, marks):
        self.block = block
        self.marks = marks

    def nothing(self):
        """The row that stands for no rows in a bare block."""
        return ((), 0, tuple([empty(fn) for fn, _, _ in self.block.aggs]))

    def output_row(self, row):
        """The outputs of a row, None if having is not true on it."""
        worth = dict(zip(self.marks, row[0]))
        folds = row[2]
        if self.block.grouped:
            told = list(zip(self.block.aggs, row[2]))
            folds = [row[1] if u is None else fold for (_, u, _), fold in told]
        if not all(mark_truth(cond, worth, folds) is True for cond in self.block.having):
            return None
        return tuple([mark_value(out, worth, folds) for out in self.block.outs])
