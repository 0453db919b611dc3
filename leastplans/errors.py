"""All errors of the program: what is wrong stands in their fields."""


class PlanError(ValueError):
    """The base of all errors."""


class TextError(PlanError):
    """A text of a question cannot be read."""


class QuestionError(PlanError):
    """A question is not let."""


class HouseError(PlanError):
    """A deed on a house is refused."""


class StepError(PlanError):
    """A plan, its text, or the size of a page is refused."""


class BadText(TextError):
    def __init__(self, at):
        TextError.__init__(self, f"cannot be read at {at!r}")
        self.at = at


class TooMuch(TextError):
    def __init__(self, what):
        TextError.__init__(self, f"too much: {what!r}")
        self.what = what


class NoName(QuestionError):
    def __init__(self, name):
        QuestionError.__init__(self, f"nothing is called {name!r}")
        self.name = name


class TwiceNamed(QuestionError):
    def __init__(self, name):
        QuestionError.__init__(self, f"already called so: {name!r}")
        self.name = name


class BadKind(QuestionError):
    def __init__(self, place):
        QuestionError.__init__(self, f"kinds that do not go together: {place!r}")
        self.place = place


class BadPlace(QuestionError):
    def __init__(self, what):
        QuestionError.__init__(self, f"cannot stand there: {what!r}")
        self.what = what


class BadRow(HouseError):
    def __init__(self, why):
        HouseError.__init__(self, f"no row of this table: {why!r}")
        self.why = why


class BadFact(HouseError):
    def __init__(self, why):
        HouseError.__init__(self, f"no fact of this table: {why!r}")
        self.why = why


class FactBroken(HouseError):
    def __init__(self, table, fact):
        HouseError.__init__(self, f"a fact of {table!r} would break: {fact!r}")
        self.table = table
        self.fact = fact


class InUse(HouseError):
    def __init__(self, name):
        HouseError.__init__(self, f"a view uses {name!r}")
        self.name = name


class BadPlan(StepError):
    def __init__(self, path, why):
        StepError.__init__(self, f"not let at {path!r}: {why!r}")
        self.path = path
        self.why = why


class BadPlanText(StepError):
    def __init__(self, line):
        StepError.__init__(self, f"no plan at line {line!r}")
        self.line = line


class BadPage(StepError):
    def __init__(self, size):
        StepError.__init__(self, f"no size of a page: {size!r}")
        self.size = size
