"""Which orders are wanted of a plan."""

from leastplans.states import is_side, is_squeezed_alone, units_of


def wanted(sizes, state):
    """The wanted orders of plans of a state, each once."""
    block = sizes.block
    found = [(mark,) for mark in marks_to_meet(sizes, state)]
    if not is_side(state):
        if block.grouped and not is_squeezed_alone(state):
            found.append(free_kept(sizes, units_of(state)))
        if block.listed:
            found.append(way_seen(sizes, state))
    orders = []
    for order in found:
        if order != () and order not in orders:
            orders.append(order)
    return tuple(orders)


def marks_to_meet(sizes, state):
    """The marks by which what is outside may be met, rising."""
    block = sizes.block
    if is_side(state):
        u = state[1]
        bound = [mark for mark, _ in sizes.bound_at(u)]
        seconds = [own for _, own in sizes.pairs_at(u)]
        return [mark for mark in sizes.seen_at(state) if mark in seconds and mark not in bound]
    asked = []
    inside = units_of(state)
    for u, unit in enumerate(block.units):
        if u not in inside:
            asked.extend([other for other, _ in sizes.pairs_at(u)])
            if unit.kind == "core":
                asked.extend(sizes.marks_at((u,)))
    fixed = fixed_marks(block)
    return [mark for mark in sizes.seen_at(state) if mark in asked and mark not in fixed]


def fixed_marks(block):
    return [mark for mark, _ in block.fixed]


def free_kept(sizes, units):
    """The marks of kept of closed units that are not fixed, rising."""
    fixed = fixed_marks(sizes.block)
    return tuple([mark for mark in sizes.kept_at(units) if mark not in fixed])


def way_seen(sizes, state):
    """The longest beginning of the way that a state sees."""
    way, _ = way_of(sizes.block)
    marks = sizes.seen_at(state)
    many = 0
    while many < len(way) and way[many] in marks:
        many += 1
    return way[:many]


def way_of(block):
    """The marks by whose ranks rows rise in the wanted order, and whether they tell all of it."""
    passed = fixed_marks(block)
    way = []
    for place, how in wanted_order(block):
        out = block.outs[place]
        if out[0] == "mark" and out[1] in passed:
            continue
        if out[0] != "mark" or how != "asc":
            return (tuple(way), False)
        way.append(out[1])
        passed.append(out[1])
    return (tuple(way), True)


def wanted_order(block):
    """The members of the wanted order, pairs (output, "asc" or "desc")."""
    return list(block.orders) + [(place, "asc") for place in range(len(block.outs))]


def begin_alike(one, other):
    """With how many marks two orders begin alike."""
    many = 0
    while many < len(one) and many < len(other) and one[many] == other[many]:
        many += 1
    return many


def matched(block, order):
    """With how many marks an order and the way begin alike."""
    way, _ = way_of(block)
    return begin_alike(order, way)


def is_settled(sizes, state, order):
    """True if rows of a plan with this order need no more sorting."""
    way, is_all = way_of(sizes.block)
    if is_all and matched(sizes.block, order) == len(way):
        return True
    return run_of(sizes, state, order) <= 1


def run_of(sizes, state, order):
    """At most so many rows stand in the same place as far as the order tells."""
    if sizes.block.bare():
        return 1
    return sizes.by(state, order[:matched(sizes.block, order)])
