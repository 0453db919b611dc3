"""Facts of a table: as they are told, and placed, which tell columns by place."""

from leastplans.errors import BadFact
from leastplans.plain import is_number_to

MOST_TOLD = 10 ** 6
ONCE = ("rows", "lies")


def told_facts(columns, facts):
    """The placed facts; raises if they are no facts of a table with these columns."""
    placed = []
    for fact in facts:
        check_fact(columns, fact)
        if fact[0] in ONCE and has_fact(placed, fact[0]):
            raise BadFact("twice")
        placed.append(placed_fact(columns, fact))
    if not has_fact(placed, "rows"):
        raise BadFact("rows")
    return tuple(placed)


def lies_places(placed):
    """The places by whose ranks the rows of a table with these facts rise."""
    for fact in placed:
        if fact[0] == "lies":
            return fact[1]
    return ()


def check_fact(columns, fact):
    """Raises what is wrong with a fact, whatever the other ones are."""
    if not has_form(fact):
        raise BadFact("form")
    if not has_number(fact):
        raise BadFact("number")
    told = told_columns(fact)
    if fact[0] != "rows" and told == ():
        raise BadFact("empty")
    names = column_names(columns)
    for at, name in enumerate(told):
        if name not in names or name in told[:at]:
            raise BadFact("column")
    if fact[0] == "key" and any(columns[names.index(name)][2] for name in told):
        raise BadFact("free")


def has_form(fact):
    """True if a value is a fact but for its names and numbers."""
    if not isinstance(fact, tuple) or len(fact) not in (2, 3):
        return False
    if fact[0] == "rows":
        return len(fact) == 2
    if fact[0] in ("key", "lies"):
        return len(fact) == 2 and is_strings(fact[1])
    if fact[0] == "fan":
        return len(fact) == 3 and is_strings(fact[1])
    return fact[0] == "dist" and len(fact) == 3 and isinstance(fact[1], str)


def is_strings(thing):
    return isinstance(thing, tuple) and all(isinstance(one, str) for one in thing)


def has_number(fact):
    if fact[0] == "rows":
        return is_number_to(fact[1], MOST_TOLD)
    if fact[0] in ("fan", "dist"):
        return is_number_to(fact[2], MOST_TOLD) and fact[2] != 0
    return True


def told_columns(fact):
    """The names of the columns of a fact, () for rows."""
    if fact[0] == "rows":
        return ()
    return (fact[1],) if fact[0] == "dist" else fact[1]


def placed_fact(columns, fact):
    """A fact with places in the place of names."""
    if fact[0] == "rows":
        return fact
    names = column_names(columns)
    places = tuple([names.index(name) for name in told_columns(fact)])
    if fact[0] == "dist":
        return ("dist", places[0], fact[2])
    return (fact[0], places) + fact[2:]


def has_fact(placed, word):
    return any(fact[0] == word for fact in placed)


def column_names(columns):
    return [name for name, _, _ in columns]
