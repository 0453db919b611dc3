"""A house: tables and views, and the count of their editions."""

from leastplans.errors import InUse, NoName, TwiceNamed
from leastplans.factkinds import lies_places
from leastplans.tables import Table


class House:
    """A house, at first empty."""

    def __init__(self):
        self.tables = {}
        self.views = {}
        self.editions = {}
        self.last = 0

    def add_table(self, name, columns, facts):
        self.check_new(name)
        self.tables[name] = Table(name, columns, facts)
        self.tell_edition(name)

    def drop(self, name):
        """Takes away a table or a view."""
        self.kind_of(name)
        for _, uses in list(self.views.values()):
            if name in uses:
                raise InUse(name)
        if name in self.tables:
            del self.tables[name]
        else:
            del self.views[name]
        del self.editions[name]

    def add_index(self, table, ixname, cols):
        self.table_of(table).add_index(ixname, cols)
        self.tell_edition(table)

    def drop_index(self, table, ixname):
        self.table_of(table).drop_index(ixname)
        self.tell_edition(table)

    def retell(self, table, facts):
        self.table_of(table).retell(facts)
        self.tell_edition(table)

    def put(self, table, row):
        self.table_of(table).lay(row)

    def take(self, table, row):
        """Takes a row out of a table; True if it was there."""
        return self.table_of(table).lift_out(row)

    def lay_view(self, name, question, uses):
        self.check_new(name)
        self.views[name] = (question, uses)
        self.tell_edition(name)

    def names(self):
        return tuple(sorted(list(self.tables) + list(self.views)))

    def kind_of(self, name):
        if name in self.tables:
            return "table"
        if name in self.views:
            return "view"
        raise NoName(name)

    def edition(self, name):
        self.kind_of(name)
        return self.editions[name]

    def columns_of(self, table):
        return self.table_of(table).columns

    def facts_of(self, table):
        return self.table_of(table).facts

    def lies_of(self, table):
        return lies_places(self.table_of(table).placed)

    def rows_of_table(self, table):
        return list(self.table_of(table).lying)

    def indexes_of(self, table):
        indexed = self.table_of(table).indexed
        return tuple([(ixname, indexed[ixname][0]) for ixname in sorted(indexed)])

    def entries_of_index(self, table, ixname):
        indexed = self.table_of(table).indexed
        if ixname not in indexed:
            raise NoName(ixname)
        return indexed[ixname][1]

    def question_of(self, name):
        return self.view_of(name)[0]

    def uses_of(self, name):
        return self.view_of(name)[1]

    def table_of(self, name):
        if name not in self.tables:
            raise NoName(name)
        return self.tables[name]

    def view_of(self, name):
        if name not in self.views:
            raise NoName(name)
        return self.views[name]

    def check_new(self, name):
        """Raises if the house has the name."""
        if name in self.tables or name in self.views:
            raise TwiceNamed(name)

    def tell_edition(self, name):
        """Gives a table or view the next number."""
        self.last += 1
        self.editions[name] = self.last
