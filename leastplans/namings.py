"""The names of a question: whether each one names something that is seen there."""

from leastplans.errors import NoName, TwiceNamed
from leastplans.factkinds import column_names
from leastplans.namelists import first_twice
from leastplans.questionparts import output_names
from leastplans.scopes import Scope
from leastplans.trees import parts_of


def named(house, question):
    """Raises the error of the first wrong name of a question."""
    name_question(Scope(house, {}), question)


def name_question(scope, question):
    _, withs, _, items, sources, where, groups, having, orders, _ = question
    inside = name_withs(scope, withs)
    seen = name_sources(inside, sources)
    for expr, _ in items:
        name_thing(inside, seen, seen, expr)
    outputs = output_names(question)
    twice = first_twice(outputs)
    if twice is not None:
        raise TwiceNamed(twice)
    name_thing(inside, seen, seen, where)
    for column in groups:
        name_thing(inside, seen, seen, column)
    name_thing(inside, seen, seen, having)
    for name, _ in orders:
        if name not in outputs:
            raise NoName(name)


def name_withs(scope, withs):
    """The Scope behind a with."""
    names = []
    for name, question in withs:
        if name in names:
            raise TwiceNamed(name)
        name_question(scope, question)
        names.append(name)
        scope = scope.with_name(name, question)
    return scope


def name_sources(scope, sources):
    """What a list of sources lets be seen: a dict of aliases to the names of their columns."""
    seen = {}
    for _, what, alias, on in sources:
        names = names_of_source(scope, what)
        if alias in seen:
            raise TwiceNamed(alias)
        seen[alias] = names
        name_thing(scope, seen, seen, on)
    return seen


def names_of_source(scope, what):
    if scope.is_table(what):
        return column_names(scope.house.columns_of(what[1]))
    question, _ = scope.meant(what)
    if what[0] == "question":
        name_question(scope, question)
    return output_names(question)


def name_thing(scope, seen, near, thing):
    """Goes through an expression, a condition or None.

    Its columns see seen; each exists, and each in with its expression, sees near alone.
    """
    if thing is None:
        return
    if thing[0] == "col":
        name_column(seen, thing)
    elif thing[0] == "agg":
        name_thing(scope, seen, near, thing[2])
    elif thing[0] == "exists":
        own = name_sources(scope, thing[1])
        name_thing(scope, {**near, **own}, own, thing[2])
    elif thing[0] == "in":
        name_thing(scope, near, near, thing[1])
        name_question(scope, thing[2])
    else:
        for part in parts_of(thing):
            name_thing(scope, seen, near, part)


def name_column(seen, column):
    _, alias, name = column
    if alias not in seen:
        raise NoName(alias)
    if name not in seen[alias]:
        raise NoName(name)
