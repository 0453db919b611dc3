"""Runs that join two plans."""

from leastplans.listjoins import Finder
from leastplans.ranks import equal, rank
from leastplans.runs import MeetingRun


class LoopRun(MeetingRun):
    """A left row meets all right rows."""

    def __init__(self, sight, left, right):
        MeetingRun.__init__(self, (left, right), sight, 1)
        self.rights = None

    def pull(self):
        """The next row, None behind the last one."""
        if self.rights is None:
            self.rights = self.pulled_out(self.children[1], 1)
        return self.next_row()

    def meet(self, left):
        self.hold(left, self.rights, 0)


class HashRun(MeetingRun):
    """A left row meets the right rows that are equal to it in all pairs."""

    def __init__(self, sight, left, right):
        MeetingRun.__init__(self, (left, right), sight, 1)
        self.finder = None

    def pull(self):
        """The next row, None behind the last one."""
        if self.finder is None:
            self.finder = Finder(self.sight.shared, self.pulled_out(self.children[1], 2))
        return self.next_row()

    def meet(self, left):
        self.hold(left, self.finder.rows_for(left), 0)


class MergeRun(MeetingRun):
    """A left row meets the right rows that are equal to it in one pair, by which both rise."""

    def __init__(self, sight, left, right, left_place, right_place):
        MeetingRun.__init__(self, (left, right), sight, 1)
        self.left_place = left_place
        self.right_place = right_place
        self.rights = None
        self.low = 0

    def pull(self):
        """The next row, None behind the last one."""
        if self.rights is None:
            self.rights = self.pulled_out(self.children[1], 1)
        return self.next_row()

    def meet(self, left):
        value = left[0][self.left_place]
        # left rows rise, so what is below one of them is below all later ones
        while self.low < len(self.rights) and rank(self.right_value(self.low)) < rank(value):
            self.low += 1
        behind = self.low
        while behind < len(self.rights) and equal(self.right_value(behind), value):
            behind += 1
        self.hold(left, self.rights[self.low:behind], 0)

    def right_value(self, at):
        return self.rights[at][0][self.right_place]
