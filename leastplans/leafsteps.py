"""The steps that read the source of a unit."""

from leastplans.lifts import bits
from leastplans.states import SIDE, as_they_are
from leastplans.unitmarks import has_table, mark_of


def why_leaf(sizes, step):
    """Why a scan, walk or seek is not let, or None."""
    units = sizes.block.units
    if step[1] >= len(units):
        return "unit"
    unit = units[step[1]]
    if not has_table(unit):
        return "source"
    if step[0] == "scan":
        return None
    places = index_places(unit, step[2])
    if places is None:
        return "index"
    if step[0] == "walk":
        return None
    return why_length(places, step[3]) or why_equal(sizes, step[1], places[:step[3]])


def index_places(unit, ixname):
    """The places of the columns of an index, None if there is none."""
    for name, places in unit.indexed:
        if name == ixname:
            return places
    return None


def why_length(places, many):
    return None if 1 <= many <= len(places) else "length"


def why_equal(sizes, u, places):
    """Why the values of columns are not all told by the block itself, or None."""
    told = told_marks(sizes, u)
    unit = sizes.block.units[u]
    return None if all(mark_of(unit, place) in told for place in places) else "equal"


def told_marks(sizes, u):
    """The marks of a unit whose values are told: fixed, or of an attachment bound."""
    block = sizes.block
    told = block.fixed if block.units[u].kind == "core" else sizes.bound_at(u)
    return [mark for mark, _ in told]


def leaf_told(sizes, step):
    """(state, order, local price) of a scan, walk or seek."""
    u = step[1]
    unit = sizes.block.units[u]
    size = sizes.fan(u, ())
    places = unit.lies if step[0] == "scan" else index_places(unit, step[2])
    order = order_of_columns(sizes, u, places)
    if step[0] == "seek":
        price = look_price(sizes, u, places[:step[3]])
    else:
        price = size if step[0] == "scan" else 2 * size
    return (leaf_state(sizes, u), order, price)


def look_price(sizes, u, places):
    """The price of finding the rows with told values at the first places of an index."""
    return bits(sizes.fan(u, ())) + 1 + 2 * sizes.fan(u, places)


def leaf_state(sizes, u):
    return as_they_are((u,)) if sizes.block.units[u].kind == "core" else (SIDE, u)


def order_of_columns(sizes, u, places):
    """The marks by which rows rise that rise by these columns of a unit."""
    unit = sizes.block.units[u]
    passed = told_marks(sizes, u)
    order = []
    for place in places:
        mark = mark_of(unit, place)
        if mark is None:
            break
        if mark not in passed:
            order.append(mark)
            passed.append(mark)
    return tuple(order)


def inner_told(sizes, u, order):
    """(state, order, local price) of an inner step whose top has this order of outputs."""
    return (leaf_state(sizes, u), order_of_columns(sizes, u, order), sizes.fan(u, ()))
