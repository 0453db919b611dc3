"""Units whose source is a plain block, merged into the block around them."""

from leastplans.raws import RawBlock, RawUnit, is_table
from leastplans.trees import rebuilt

MOST_UNITS = 5
MOST_GROUPED = 4


def can_merge(raw, unit):
    """True if the units of the unit's source may stand in the place of the unit."""
    one = raw.units[unit]
    if one.kind != "core" or is_table(one.source):
        return False
    inner = one.source
    if inner.grouped or inner.distinct or inner.limit is not None:
        return False
    if not all(inner.outs[place][0] == "col" for place in places_asked(raw, unit)):
        return False
    return has_room(raw, len(raw.units) - 1 + len(inner.units))


def has_room(raw, many):
    """True if so many units are let in a block like this one."""
    return many <= (MOST_GROUPED if raw.grouped or raw.distinct else MOST_UNITS)


def places_asked(raw, unit):
    """The places of the unit's columns that are groups, or in an agg."""
    grouped = [place for _, at, place in raw.groups if at == unit]
    return grouped + [place for _, at, place in raw.aggs if at == unit]


def merged(raw, unit):
    """The block with the units of the unit's source in the place of the unit."""
    inner = raw.units[unit].source
    more = len(inner.units) - 1

    def within(thing):
        return moved(thing, 0, (), unit)

    outs = tuple([within(out) for out in inner.outs])

    def around(thing):
        return moved(thing, unit, outs, more)

    units = units_moved(raw.units[:unit], around) + units_moved(inner.units, within)
    units += units_moved(raw.units[unit + 1:], around)
    tests = all_moved(raw.tests, around) + all_moved(inner.tests, within)
    return RawBlock(
        units, tests, raw.grouped, each_once(all_moved(raw.groups, around)),
        tuple([agg_moved(agg, around) for agg in raw.aggs]), all_moved(raw.having, around),
        all_moved(raw.outs, around), raw.outnames, raw.outkinds, raw.orders, raw.limit,
        raw.listed, raw.distinct)


def moved(thing, unit, outs, more):
    """The same with outs in the place of the unit's columns; units behind it get greater numbers.

    Without outs the unit itself is among those that get greater numbers.
    """
    def change(one):
        if one[0] != "col" or one[1] < unit:
            return one
        if one[1] == unit and outs:
            return outs[one[2]]
        return ("col", one[1] + more, one[2])

    return rebuilt(thing, change)


def all_moved(things, move):
    return tuple([move(thing) for thing in things])


def units_moved(units, move):
    return tuple([RawUnit(one.kind, one.source, all_moved(one.conds, move)) for one in units])


def agg_moved(agg, move):
    fn, unit, place = agg
    if unit is None:
        return agg
    _, new_unit, new_place = move(("col", unit, place))
    return (fn, new_unit, new_place)


def each_once(things):
    """The same things, each only where it stands first."""
    return tuple([thing for at, thing in enumerate(things) if thing not in things[:at]])
