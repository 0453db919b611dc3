"""Whether aggs, exists, in and columns stand where they can."""

from leastplans.errors import BadPlace
from leastplans.questionparts import is_grouped
from leastplans.trees import members, parts_of


def placed_well(question):
    """Raises the first thing of a question that stands where it cannot."""
    _, withs, _, items, sources, where, groups, having, _, _ = question
    for _, told in withs:
        placed_well(told)
    place_sources(sources)
    let = groups if is_grouped(question) else None
    for expr, _ in items:
        place_thing(expr, True, let)
    place_where(where)
    if having is not None:
        place_thing(having, True, let)


def place_sources(sources):
    for _, what, _, on in sources:
        if what[0] == "question":
            placed_well(what)
        if on is not None:
            place_thing(on, False, None)


def place_where(where):
    """A where: its members may be exists and in."""
    for member in members(where):
        inner = member[1] if member[0] == "not" else member
        if inner[0] == "exists":
            place_sources(inner[1])
            place_where(inner[2])
        elif inner[0] == "in":
            place_in(inner)
        else:
            place_thing(member, False, None)


def place_in(cond):
    _, expr, question = cond
    if len(question[3]) > 1:
        raise BadPlace("in")
    place_thing(expr, False, None)
    placed_well(question)


def place_thing(thing, aggs_let, columns_let):
    """Goes through an expression or condition in which no exists and no in can stand.

    columns_let are the columns that can stand there outside of aggs, None for all.
    """
    if thing[0] in ("exists", "in"):
        raise BadPlace(thing[0])
    if thing[0] == "agg" and not aggs_let:
        raise BadPlace("agg")
    if thing[0] == "col" and columns_let is not None and thing not in columns_let:
        raise BadPlace("group")
    for part in parts_of(thing):
        place_thing(part, aggs_let, columns_let)
