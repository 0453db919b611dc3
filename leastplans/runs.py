"""What all runs share."""


class Run:
    """A run of a step: it gives the rows of the step one by one, and counts what it does."""

    def __init__(self, children):
        self.given = 0
        self.spent = 0
        self.children = children
        self.is_over = False

    def counted(self, row):
        """A row that is about to be returned, counted; None at the end, from which on it stays None."""
        if row is None:
            self.is_over = True
        else:
            self.given += 1
        return row

    def pulled_out(self, child, cost):
        """All rows of a child, each of which counts so much."""
        found = []
        row = child.pull()
        while row is not None:
            self.spent += cost
            found.append(row)
            row = child.pull()
        return found

    def next_of(self, rows):
        """The next one of all rows, None behind the last one."""
        return self.counted(rows[self.given] if self.given < len(rows) else None)


class MeetingRun(Run):
    """A run that gives what becomes of each row of its left child and the right rows that it meets."""

    def __init__(self, children, sight, cost):
        Run.__init__(self, children)
        self.sight = sight
        self.cost = cost
        self.left = None
        self.met = []
        self.at = 0
        self.behind_cost = 0
        self.is_alone = False

    def next_row(self):
        """The next row, None behind the last one; meet(left) of the class tells what left rows meet."""
        while not self.is_over:
            row = self.next_met()
            if row is not None:
                return self.counted(row)
            left = self.children[0].pull()
            if left is None:
                return self.counted(None)
            self.spent += 1
            self.meet(left)
        return None

    def hold(self, left, met, behind_cost):
        """Takes a left row in hand with all that it may meet; what is None is met but not taken.

        behind_cost counts if all of them are met.
        """
        self.left = left
        self.met = met
        self.at = 0
        self.behind_cost = behind_cost
        self.is_alone = True

    def next_met(self):
        """The next row that becomes of the left row in hand, None behind the last one."""
        while self.at < len(self.met):
            right = self.met[self.at]
            self.at += 1
            self.spent += self.cost
            if right is not None and self.sight.row_fits(self.left, right):
                self.is_alone = False
                row = self.row_of_fit(right)
                if row is not None:
                    return row
        self.spent += self.behind_cost
        self.behind_cost = 0
        return self.row_of_none()

    def row_of_fit(self, right):
        """What becomes of the left row and a right one that fits."""
        if self.sight.kind in ("semi", "anti"):
            # the first one that fits tells all
            self.met = []
            self.behind_cost = 0
        if self.sight.kind == "anti":
            return None
        return self.sight.row_of_both(self.left, right)

    def row_of_none(self):
        """What becomes of the left row at the end, if none fits; only once."""
        is_alone = self.is_alone
        self.is_alone = False
        if is_alone and self.sight.kind == "anti":
            return self.left
        if is_alone and self.sight.kind == "left":
            return self.sight.row_of_nulls(self.left)
        return None
