"""Runs that read the source of a unit."""

from leastplans.entries import stretch
from leastplans.runs import Run


class ScanRun(Run):
    """Reads the rows of a table as they lie."""

    def __init__(self, taker, rows):
        Run.__init__(self, ())
        self.taker = taker
        self.rows = rows
        self.at = 0

    def pull(self):
        """The next row, None behind the last one."""
        found = None
        while found is None and self.at < len(self.rows):
            found = self.taker.row_taken(self.rows[self.at])
            self.at += 1
            self.spent += 1
        return self.counted(found)


class WalkRun(Run):
    """Reads the rows of a table as the entries of an index stand."""

    def __init__(self, taker, rows, entries):
        Run.__init__(self, ())
        self.taker = taker
        self.rows = rows
        self.entries = entries
        self.at = 0

    def pull(self):
        """The next row, None behind the last one."""
        found = None
        while found is None and self.at < len(self.entries):
            found = self.taker.row_taken(self.rows[self.entries[self.at]])
            self.at += 1
            self.spent += 2
        return self.counted(found)


class SeekRun(Run):
    """Reads the rows of a table that the first columns of an index tell."""

    def __init__(self, taker, rows, entries, places, told):
        Run.__init__(self, ())
        self.taker = taker
        self.rows = rows
        self.entries = entries
        self.places = places
        self.told = told
        self.at = None
        self.behind = 0

    def pull(self):
        """The next row, None behind the last one."""
        if self.is_over:
            return None
        if self.at is None:
            self.at, self.behind, looks = stretch(self.rows, self.entries, self.places, self.told)
            self.spent += looks
        found = None
        while found is None and self.at < self.behind:
            found = self.taker.row_taken(self.rows[self.entries[self.at]])
            self.at += 1
            self.spent += 2
        if found is None and self.behind < len(self.entries):
            self.spent += 1
        return self.counted(found)


class InnerRun(Run):
    """Takes the rows of a top of the block that is the source."""

    def __init__(self, taker, child):
        Run.__init__(self, (child,))
        self.taker = taker

    def pull(self):
        """The next row, None behind the last one."""
        while not self.is_over:
            row = self.children[0].pull()
            if row is None:
                return self.counted(None)
            self.spent += 1
            found = self.taker.row_taken(row)
            if found is not None:
                return self.counted(found)
        return None
