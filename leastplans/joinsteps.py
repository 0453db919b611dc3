"""The steps that put two plans together, or a plan and a unit."""

from leastplans.leafsteps import index_places, look_price, told_marks, why_length
from leastplans.states import SIDE, as_they_are, is_side, units_of
from leastplans.unitmarks import has_table, mark_of


def why_join(sizes, word, left, right):
    """Why a loop, hash or merge over two children is not let, or None."""
    if is_side(left[0]):
        return "side"
    if any(u in units_of(left[0]) for u in units_of(right[0])):
        return "overlap"
    if is_side(right[0]) and not is_met(sizes, left[0], right[0][1]):
        return "need"
    pairs = pairs_between(sizes, left[0], right[0])
    if word == "hash" and pairs == ():
        return "equal"
    if word == "merge" and first_pair(left[1], right[1]) not in pairs:
        return "order"
    return None


def is_met(sizes, state, u):
    """True if the need of an attachment is among the marks of the units of a state."""
    marks = sizes.marks_at(units_of(state))
    return all(mark in marks for mark in sizes.block.units[u].need)


def pairs_between(sizes, left_state, right_state):
    """The pairs of two states of which the right one may be a side."""
    if is_side(right_state):
        return sizes.pairs_at(right_state[1])
    marks = sizes.seen_at(right_state)
    return tuple([(mark, mark) for mark in sizes.seen_at(left_state) if mark in marks])


def first_pair(one, other):
    """The first marks of two orders, None if one of them is ()."""
    return None if one == () or other == () else (one[0], other[0])


def join_told(sizes, word, left, right):
    """(state, order, local price) of a loop, hash or merge over two children."""
    one = sizes.bag_size(left[0])
    other = sizes.bag_size(right[0])
    if word == "loop":
        price = one + other + one * other
    elif word == "hash":
        pairs = pairs_between(sizes, left[0], right[0])
        price = one + 2 * other + candidates(sizes, left[0], right[0], pairs)
    else:
        pairs = (first_pair(left[1], right[1]),)
        price = one + other + candidates(sizes, left[0], right[0], pairs)
    return (joined_state(left[0], right[0]), left[1], price)


def candidates(sizes, left_state, right_state, pairs):
    """How many pairs of rows, at most, are equal in all pairs of marks."""
    firsts = tuple([first for first, _ in pairs])
    seconds = tuple([second for _, second in pairs])
    return min(
        sizes.bag_size(left_state) * sizes.by(right_state, seconds),
        sizes.bag_size(right_state) * sizes.by(left_state, firsts))


def joined_state(left_state, right_state):
    """The parts of both; the unit of a side stands as it is."""
    more = as_they_are((right_state[1],)) if is_side(right_state) else right_state
    return tuple(sorted(left_state + more))


def why_look(sizes, left, u, ixname, many):
    """Why a look over a child is not let, or None."""
    units = sizes.block.units
    if is_side(left[0]):
        return "side"
    if u >= len(units):
        return "unit"
    if u in units_of(left[0]):
        return "overlap"
    if not has_table(units[u]):
        return "source"
    places = index_places(units[u], ixname)
    if places is None:
        return "index"
    why = why_length(places, many)
    if why is None and not is_met(sizes, left[0], u):
        why = "need"
    return why or why_not_told(sizes, left[0], u, places[:many])


def why_not_told(sizes, state, u, places):
    """Why the values of columns are not all told by the block and a row, or None."""
    unit = sizes.block.units[u]
    told = told_marks(sizes, u)
    if unit.kind == "core":
        told.extend(sizes.seen_at(state))
    else:
        told.extend([own for _, own in sizes.pairs_at(u)])
    return None if all(mark_of(unit, place) in told for place in places) else "equal"


def look_told(sizes, left, u, ixname, many):
    """(state, order, local price) of a look over a child."""
    places = index_places(sizes.block.units[u], ixname)[:many]
    size = sizes.bag_size(left[0])
    price = size + size * look_price(sizes, u, places)
    return (joined_state(left[0], (SIDE, u)), left[1], price)
