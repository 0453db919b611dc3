"""Runs that look up the rows of a table for each row of a plan."""

from leastplans.entries import stretch
from leastplans.runs import MeetingRun


class LookRun(MeetingRun):
    """A left row meets the entries of an index with the values that it tells."""

    def __init__(self, sight, asker, taker, rows, entries, places, left):
        MeetingRun.__init__(self, (left,), sight, 2)
        self.asker = asker
        self.taker = taker
        self.rows = rows
        self.entries = entries
        self.places = places

    def pull(self):
        """The next row, None behind the last one."""
        return self.next_row()

    def meet(self, left):
        told = self.asker.values_for(left)
        if told is None:
            self.hold(left, [], 0)
            return
        first, behind, looks = stretch(self.rows, self.entries, self.places, told)
        self.spent += looks
        met = [self.taker.row_taken(self.rows[at]) for at in self.entries[first:behind]]
        self.hold(left, met, 1 if behind < len(self.entries) else 0)
