"""A table: its rows, its facts, which it never lets break, and its indexes."""

from leastplans.entries import entries_of
from leastplans.errors import FactBroken, NoName, TwiceNamed
from leastplans.factchecks import broken
from leastplans.factkinds import column_names, lies_places, told_facts
from leastplans.layings import laid, laid_anew
from leastplans.namelists import first_twice
from leastplans.rowkinds import told_row


class Table:
    """A table, at first without rows and indexes."""

    def __init__(self, name, columns, facts):
        twice = first_twice(column_names(columns))
        if twice is not None:
            raise TwiceNamed(twice)
        self.placed = told_facts(columns, facts)
        self.name = name
        self.columns = columns
        self.facts = facts
        self.lying = ()
        self.indexed = {}

    def lay(self, row):
        """Puts a row in where it belongs."""
        told_row(self.columns, row)
        rows = laid(self.lying, row, lies_places(self.placed))
        self.check_facts(self.facts, self.placed, rows)
        self.set_rows(rows)

    def lift_out(self, row):
        """Takes out the first row that is alike; True if there was one."""
        told_row(self.columns, row)
        if row not in self.lying:
            return False
        at = self.lying.index(row)
        self.set_rows(self.lying[:at] + self.lying[at + 1:])
        return True

    def add_index(self, ixname, cols):
        if ixname in self.indexed:
            raise TwiceNamed(ixname)
        names = column_names(self.columns)
        for name in cols:
            if name not in names:
                raise NoName(name)
        twice = first_twice(cols)
        if twice is not None:
            raise TwiceNamed(twice)
        places = tuple([names.index(name) for name in cols])
        self.indexed[ixname] = (places, entries_of(self.lying, places))

    def drop_index(self, ixname):
        if ixname not in self.indexed:
            raise NoName(ixname)
        del self.indexed[ixname]

    def retell(self, facts):
        """Takes other facts in the place of all."""
        placed = told_facts(self.columns, facts)
        rows = laid_anew(self.lying, lies_places(placed))
        self.check_facts(facts, placed, rows)
        self.facts = facts
        self.placed = placed
        self.set_rows(rows)

    def check_facts(self, facts, placed, rows):
        """Raises the first fact that rows would break."""
        at = broken(placed, rows)
        if at is not None:
            raise FactBroken(self.name, facts[at])

    def set_rows(self, rows):
        """Takes other rows, and tells the indexes of them."""
        self.lying = tuple(rows)
        for ixname in list(self.indexed):
            places, _ = self.indexed[ixname]
            self.indexed[ixname] = (places, entries_of(self.lying, places))
