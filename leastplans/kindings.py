"""The kinds of expressions and outputs."""

from leastplans.errors import BadKind
from leastplans.scopes import Scope
from leastplans.trees import parts_of


def kind_of_expr(columns, expr):
    """The kind of an expression, None if its parts do not go together."""
    if expr[0] == "num":
        return "number"
    if expr[0] == "text":
        return "text"
    if expr[0] == "col":
        return columns[(expr[1], expr[2])]
    if expr[0] == "agg":
        return kind_of_agg(columns, expr[1], expr[2])
    if all(kind_of_expr(columns, part) == "number" for part in parts_of(expr)):
        return "number"
    return None


def kind_of_agg(columns, fn, column):
    if fn == "count":
        return "number"
    kind = kind_of_expr(columns, column)
    return None if fn == "sum" and kind != "number" else kind


def outputs(house, question):
    """The outputs of a question, pairs (name, kind); raises where kinds do not go together."""
    return outputs_at(Scope(house, {}), question)


def outputs_at(scope, question):
    _, withs, _, items, sources, where, _, having, _, _ = question
    inside = scope
    for name, told in withs:
        outputs_at(inside, told)
        inside = inside.with_name(name, told)
    columns = kinds_of_sources(inside, {}, sources)
    found = [(name, kind_let(columns, expr, "items")) for expr, name in items]
    check_kinds(inside, columns, where, "where")
    check_kinds(inside, columns, having, "having")
    return tuple(found)


def kinds_of_sources(scope, around, sources):
    """A dict of all columns that are seen behind sources, and around them, to their kinds."""
    columns = {column: around[column] for column in around}
    for _, what, alias, on in sources:
        for name, kind in kinds_of_source(scope, what):
            columns[(alias, name)] = kind
        check_kinds(scope, columns, on, "on")
    return columns


def kinds_of_source(scope, what):
    """The columns of one source, pairs (name, kind)."""
    if scope.is_table(what):
        return [(name, kind) for name, kind, _ in scope.house.columns_of(what[1])]
    question, told_in = scope.meant(what)
    return outputs_at(told_in, question)


def kind_let(columns, expr, place):
    """The kind of an expression that stands at a place by itself."""
    kind = kind_of_expr(columns, expr)
    if kind is None:
        raise BadKind(place)
    return kind


def check_kinds(scope, columns, cond, place):
    """Raises BadKind(place) if kinds do not go together in a condition; it may be None."""
    if cond is None:
        return
    if cond[0] == "cmp":
        left = kind_let(columns, cond[2], place)
        if left != kind_let(columns, cond[3], place):
            raise BadKind(place)
    elif cond[0] == "null":
        kind_let(columns, cond[1], place)
    elif cond[0] == "exists":
        inner = kinds_of_sources(scope, columns, cond[1])
        check_kinds(scope, inner, cond[2], "where")
    elif cond[0] == "in":
        kind = kind_let(columns, cond[1], place)
        if outputs_at(scope, cond[2])[0][1] != kind:
            raise BadKind(place)
    else:
        for part in parts_of(cond):
            check_kinds(scope, columns, part, place)
