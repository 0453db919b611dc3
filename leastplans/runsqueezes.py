"""Runs that squeeze the rows of a plan together."""

from leastplans.runs import Run


class BagRun(Run):
    """Squeezes all rows at once."""

    def __init__(self, squeezer, child):
        Run.__init__(self, (child,))
        self.squeezer = squeezer
        self.rows = None

    def pull(self):
        """The next row, None behind the last one."""
        if self.rows is None:
            self.rows = self.squeezer.squeezed_rows(self.pulled_out(self.children[0], 2))
        return self.next_of(self.rows)


class StreamRun(Run):
    """Squeezes adjacent rows."""

    def __init__(self, squeezer, child):
        Run.__init__(self, (child,))
        self.squeezer = squeezer
        self.so_far = None
        self.is_dry = False

    def pull(self):
        """The next row, None behind the last one."""
        while not self.is_dry:
            row = self.children[0].pull()
            whole = self.so_far
            if row is None:
                self.is_dry = True
            else:
                self.spent += 1
                is_more = whole is not None and whole[0] == self.squeezer.key_of(row)
                self.so_far = self.squeezer.with_row(whole if is_more else None, row)
                if is_more:
                    continue
            if whole is not None:
                return self.counted(whole)
        return self.counted(None)
