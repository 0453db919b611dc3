"""Runs of tops."""

from leastplans.countings import stretches_sorted
from leastplans.ranks import rank
from leastplans.runs import Run
from leastplans.wantings import wanted_order


class GiveRun(Run):
    """Gives the rows of outputs of a whole block.

    Those with the same values at matched places come in the wanted order but for the rest of it.
    """

    def __init__(self, giver, is_sorted, matched_places, child):
        Run.__init__(self, (child,))
        self.giver = giver
        self.is_sorted = is_sorted
        self.matched_places = matched_places
        self.rows = None
        self.is_dry = False

    def pull(self):
        """The next row, None behind the last one."""
        limit = self.giver.block.limit
        if limit is not None and self.given >= limit:
            return None
        if not self.is_sorted:
            row = self.next_output()
            return self.counted(None if row is None else row[1])
        if self.rows is None:
            self.rows = self.sorted_outputs()
        return self.next_of(self.rows)

    def next_output(self):
        """The next row with its outputs, a pair, None behind the last one."""
        while not self.is_dry:
            row = self.children[0].pull()
            if row is not None:
                self.spent += 1
            else:
                self.is_dry = True
                # only a bare block gives a row that stands for none
                if not self.giver.block.bare() or self.spent > 0:
                    return None
                row = self.giver.nothing()
            outs = self.giver.output_row(row)
            if outs is not None:
                return (row, outs)
        return None

    def sorted_outputs(self):
        """All rows of outputs, in the wanted order."""
        pairs = []
        pair = self.next_output()
        while pair is not None:
            pairs.append(pair)
            pair = self.next_output()
        marks = [tuple([row[0][place] for place in self.matched_places]) for row, _ in pairs]
        outs = [outs for _, outs in pairs]
        found, many = stretches_sorted(outs, marks, wanted_ranks(self.giver.block, outs))
        self.spent += many
        return found


def wanted_ranks(block, rows):
    """A tuple for each row of outputs; it is less for a row that goes ahead in the wanted order."""
    columns = []
    for place, how in wanted_order(block):
        ranks = [rank(row[place]) for row in rows]
        if how == "desc":
            falling = sorted({one for one in ranks})[::-1]
            places = {one: at for at, one in enumerate(falling)}
            ranks = [places[one] for one in ranks]
        columns.append(ranks)
    return [tuple([column[at] for column in columns]) for at in range(len(rows))]
