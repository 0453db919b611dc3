"""From a question to its raw block."""

from leastplans.columnsin import aggs_in, columns_in, replaced
from leastplans.factkinds import column_names
from leastplans.kindings import kind_of_expr
from leastplans.merging import each_once
from leastplans.questionparts import is_grouped, output_names, placed_orders
from leastplans.raws import RawBlock, RawUnit, is_table
from leastplans.trees import joined, members
from leastplans.turning import by_turns, distinct_turned, having_moved


def raw_of(house, question, outermost):
    """The raw block of a question with names put in."""
    _, _, distinct, items, sources, where, groups, having, orders, limit = question
    places = places_of(house, sources)
    units, tests = units_of_sources(house, sources, places)
    for member in members(where):
        told = unit_cond(member)
        if told is None:
            tests.append(replaced(member, places))
        else:
            units.append(unit_of_where(house, places, told, member[0] == "not", len(units)))
    exprs = [expr for expr, _ in items]
    aggs = asked_aggs(exprs, having)
    table = {**places, **{agg: ("agg", at) for at, agg in enumerate(aggs)}}
    kinds = kinds_of_columns(house, places, units)
    listed = limit is not None or outermost and orders != ()
    block = RawBlock(
        tuple(units), tuple(tests), is_grouped(question),
        each_once(all_replaced(groups, places)),
        tuple([placed_agg(places, agg) for agg in aggs]),
        all_replaced(members(having), table), all_replaced(exprs, table),
        output_names(question), tuple([kind_of_expr(kinds, expr) for expr in exprs]),
        placed_orders(question) if listed else (), limit, listed, distinct)
    return distinct_turned(having_moved(by_turns(block)))


def places_of(house, sources):
    """A dict of the columns ("col", alias, name) of sources to ("col", u, place)."""
    found = {}
    for u, (_, what, alias, _) in enumerate(sources):
        if what[0] == "table":
            names = column_names(house.columns_of(what[1]))
        else:
            names = output_names(what)
        for place, name in enumerate(names):
            found[("col", alias, name)] = ("col", u, place)
    return found


def kinds_of_columns(house, places, units):
    """A dict of (alias, name) to the kind of the column."""
    kinds = [kinds_of_source(house, unit.source) for unit in units]
    found = {}
    for column in places:
        _, u, place = places[column]
        found[(column[1], column[2])] = kinds[u][place]
    return found


def kinds_of_source(house, source):
    if is_table(source):
        return [kind for _, kind, _ in house.columns_of(source[1])]
    return list(source.outkinds)


def all_replaced(things, table):
    return tuple([replaced(thing, table) for thing in things])


def asked_aggs(exprs, having):
    """The unlike aggs of items and of having, from left to right."""
    found = [agg for expr in exprs for agg in aggs_in(expr)]
    return each_once(found + list(aggs_in(having)))


def placed_agg(places, agg):
    _, fn, column = agg
    if column is None:
        return (fn, None, None)
    _, u, place = places[column]
    return (fn, u, place)


def units_of_sources(house, sources, places):
    """The lists of the units that sources become, and of the tests that their on tells."""
    units = []
    tests = []
    for how, what, _, on in sources:
        source = source_of(house, what)
        conds = all_replaced(members(on), places)
        if how == "left":
            units.append(RawUnit("left", source, conds))
        else:
            units.append(RawUnit("core", source, ()))
            tests.extend(conds)
    return (units, tests)


def source_of(house, what):
    return what if what[0] == "table" else raw_of(house, what, False)


def unit_cond(member):
    """The exists or in for which a member of a where becomes a unit, or None."""
    inner = member[1] if member[0] == "not" else member
    return inner if inner[0] in ("exists", "in") else None


def unit_of_where(house, places, cond, is_not, u):
    """The unit u that an exists or in becomes, or a not over one."""
    kind = "anti" if is_not else "semi"
    if cond[0] == "exists":
        source, conds = parted_exists(house, places, cond, u)
        return RawUnit(kind, source, conds)
    wanted = ("cmp", "=", replaced(cond[1], places), ("col", u, 0))
    return RawUnit(kind, raw_of(house, cond[2], False), (("maybe", wanted) if is_not else wanted,))


def parted_exists(house, places, cond, u):
    """The source and the conds of the unit u that an exists becomes."""
    _, sources, where = cond
    told = members(where)
    own = places_of(house, sources)
    if is_plain(sources, told):
        source = sources[0][1]
        asked = list(own)
        conds = told
    else:
        conds = [member for member in told if has_outer(sources, member)]
        within = tuple([member for member in told if not has_outer(sources, member)])
        asked = inner_columns(own, conds)
        items = tuple([(column, column[2]) for column in asked])
        source = raw_of(house, plain_question(items, sources, joined(within)), False)
    inner = {column: ("col", u, at) for at, column in enumerate(asked)}
    return (source, all_replaced(conds, {**places, **inner}))


def is_plain(sources, told):
    """True if an exists has just a table, and no member of its where becomes a unit."""
    if len(sources) > 1 or sources[0][1][0] != "table":
        return False
    return all(unit_cond(member) is None for member in told)


def has_outer(sources, member):
    """True if a column of the member is of none of the sources."""
    aliases = [alias for _, _, alias, _ in sources]
    return any(column[1] not in aliases for column in columns_in(member))


def inner_columns(own, conds):
    """The columns of conds that are among own, each once, by unit, then place."""
    asked = [column for cond in conds for column in columns_in(cond)]
    # own tells its columns by unit, then place
    return [column for column in own if column in asked]


def plain_question(items, sources, where):
    return ("question", (), False, items, sources, where, (), None, (), None)
