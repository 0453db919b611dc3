"""Cursors: answers pulled in pages."""

from leastplans.errors import BadPage
from leastplans.opening import line_runs, open_top
from leastplans.plain import is_number_to
from leastplans.planshapes import nodes_of
from leastplans.plantexts import words_of_node

LARGEST_PAGE = 10000


class Cursor:
    """Gives the answer of a top that is let, page by page."""

    def __init__(self, house, block, top):
        self.run = open_top(house, block, top)
        self.words = [words_of_node(node) for _, node in nodes_of(top)]
        self.is_done = False

    def page(self, size):
        """The next rows, a list of so many, or of fewer at the end."""
        if not is_number_to(size, LARGEST_PAGE) or size == 0:
            raise BadPage(size)
        rows = []
        while len(rows) < size:
            row = self.run.pull()
            if row is None:
                self.is_done = True
                break
            rows.append(row)
        return rows

    def done(self):
        """True if some page had fewer rows than asked."""
        return self.is_done

    def total(self):
        """What all steps have counted so far."""
        return sum([run.spent for _, run in line_runs(self.run)])

    def lines(self):
        """Quadruples (path, word, given, spent), one for each step."""
        found = []
        for (path, run), word in zip(line_runs(self.run), self.words):
            found.append((path, word, run.given, run.spent))
        return tuple(found)


def drained(cursor):
    """All rows that a cursor has still to give."""
    rows = []
    while not cursor.done():
        rows.extend(cursor.page(LARGEST_PAGE))
    return rows
