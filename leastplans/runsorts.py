"""Runs that sort the rows of a plan."""

from leastplans.countings import stretches_sorted
from leastplans.ranks import rank_row
from leastplans.runs import Run


class SortRun(Run):
    """Sorts rows by the values at places; they come sorted by the first values already."""

    def __init__(self, places, many_sorted, child):
        Run.__init__(self, (child,))
        self.places = places
        self.many_sorted = many_sorted
        self.rows = None

    def pull(self):
        """The next row, None behind the last one."""
        if self.rows is None:
            self.rows = self.sorted_rows(self.pulled_out(self.children[0], 1))
        return self.next_of(self.rows)

    def sorted_rows(self, rows):
        ranks = [rank_row(row[0], self.places) for row in rows]
        found, many = stretches_sorted(rows, [one[:self.many_sorted] for one in ranks], ranks)
        self.spent += many
        return found
