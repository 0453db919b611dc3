"""Whether any value is of the form of floors."""

from leastplans.plain import is_integer
from leastplans.states import SIDE

KINDS = ("made", "all")


def is_floors(thing):
    """True for a triple (inner, rows, price) of the form of floors."""
    if not is_tuple_of(thing, 3):
        return False
    inner, rows, price = thing
    if not isinstance(inner, tuple) or not isinstance(rows, tuple) or not is_number(price):
        return False
    return is_inner(inner) and all([is_row(row) for row in rows])


def is_tuple_of(thing, many):
    return isinstance(thing, tuple) and len(thing) == many


def is_number(thing):
    return is_integer(thing) and thing >= 0


def is_inner(inner):
    for pair in inner:
        if not is_tuple_of(pair, 2) or not is_number(pair[0]) or not is_floors(pair[1]):
            return False
    return is_rising([u for u, _ in inner])


def is_rising(things):
    return all(one < other for one, other in zip(things, things[1:]))


def is_row(row):
    """True for a quadruple (kind, state, order, number)."""
    if not is_tuple_of(row, 4):
        return False
    kind, state, order, number = row
    if not isinstance(kind, str) or not is_order(order) or not is_number(number):
        return False
    if kind == "give":
        return isinstance(state, tuple) and state == ()
    return kind in KINDS and is_state(state)


def is_order(order):
    if not isinstance(order, tuple) or not all(is_number(one) for one in order):
        return False
    return len(set(order)) == len(order)


def is_state(state):
    """True for ("side", u), and for a tuple of parts that rise and share no unit."""
    if not isinstance(state, tuple) or state == ():
        return False
    if isinstance(state[0], str):
        return len(state) == 2 and state[0] == SIDE and is_number(state[1])
    if not all([is_part(part) for part in state]):
        return False
    units = [u for part in state for u in part[0]]
    return is_rising(state) and len(set(units)) == len(units)


def is_part(part):
    """True for a pair (units, flag)."""
    if not is_tuple_of(part, 2):
        return False
    units, flag = part
    if not isinstance(units, tuple) or units == () or not all(is_number(u) for u in units):
        return False
    if not is_number(flag) or flag > 1 or not is_rising(units):
        return False
    return flag == 1 or len(units) == 1
