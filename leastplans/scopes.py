"""What the names of sources mean at a place of a question."""


class Scope:
    """The names that count at a place: those of told, a dict, go ahead of those of the house.

    told has, for each name, its question and the Scope at the place where it was told.
    """

    def __init__(self, house, told):
        self.house = house
        self.told = told

    def with_name(self, name, question):
        """The Scope behind the place where a with tells a name."""
        return Scope(self.house, {**self.told, name: (question, self)})

    def with_names(self, withs):
        """The Scope behind a whole with."""
        scope = self
        for name, question in withs:
            scope = scope.with_name(name, question)
        return scope

    def is_table(self, what):
        """True if what stands in a source is a table; raises NoName if nothing has its name."""
        if what[0] == "question" or what[1] in self.told:
            return False
        return self.house.kind_of(what[1]) == "table"

    def meant(self, what):
        """The question that stands in a source which is no table, and the Scope where it is read."""
        if what[0] == "question":
            return (what, self)
        if what[1] in self.told:
            return self.told[what[1]]
        return (self.house.question_of(what[1]), Scope(self.house, {}))
