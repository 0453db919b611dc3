"""Questions with names put in, and on which names a question stands."""

from leastplans.errors import NoName, TooMuch
from leastplans.meanings import names_in_question, names_used
from leastplans.scopes import Scope
from leastplans.trees import rebuilt

MOST_QUESTIONS = 8


class Tally:
    """Counts the questions that have been put in."""

    def __init__(self):
        self.many = 0

    def count_one(self):
        """Raises at once beyond the bound: names can tell far more questions than can be built."""
        self.many += 1
        if self.many > MOST_QUESTIONS:
            raise TooMuch("blocks")


def put_in(house, question):
    """The question with what its names mean in their place."""
    scope = Scope(house, {})
    check_names(scope, question)
    return put_question(scope, Tally(), question)


def used(house, question):
    """The names of the house on which a question stands, each with its edition, ascending."""
    check_names(Scope(house, {}), question)
    found = {}
    waiting = list(names_used(house, question))
    while waiting:
        name = waiting.pop()
        if name not in found:
            found[name] = house.edition(name)
            if house.kind_of(name) == "view":
                waiting.extend(house.uses_of(name))
    return tuple([(name, found[name]) for name in sorted(found)])


def check_names(scope, question):
    """Raises the first name of a source that nothing tells."""
    there = scope.house.names()
    for name in names_in_question(scope, question):
        if name not in there:
            raise NoName(name)


def put_question(scope, tally, question):
    tally.count_one()
    tag, withs, distinct, items, sources, where, groups, having, orders, limit = question
    inside = scope.with_names(withs)
    new_sources = put_sources(inside, tally, sources)
    new_where = put_cond(inside, tally, where)
    new_having = put_cond(inside, tally, having)
    return (tag, (), distinct, items, new_sources, new_where, groups, new_having, orders, limit)


def put_sources(scope, tally, sources):
    found = []
    for how, what, alias, on in sources:
        if scope.is_table(what):
            put = ("table", what[1])
        else:
            question, told_in = scope.meant(what)
            put = put_question(told_in, tally, question)
        found.append((how, put, alias, put_cond(scope, tally, on)))
    return tuple(found)


def put_cond(scope, tally, cond):
    """The same of a condition, or None."""
    if cond is None:
        return None

    def change(one):
        if one[0] == "in":
            return ("in", one[1], put_question(scope, tally, one[2]))
        if one[0] != "exists":
            return one
        tally.count_one()
        return ("exists", put_sources(scope, tally, one[1]), put_cond(scope, tally, one[2]))

    return rebuilt(cond, change)
