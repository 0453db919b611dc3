"""States: closed sets of units, some of them squeezed together; and sides."""

from leastplans.keeping import is_closed, kept, marks_in

SIDE = "side"


def is_side(state):
    """True for ("side", u)."""
    return state[0] == SIDE


def units_of(state):
    """The numbers of all units of a state, rising."""
    if is_side(state):
        return (state[1],)
    return tuple(sorted([u for units, _ in state for u in units]))


def seen(block, state):
    """The marks that a state sees, rising."""
    if is_side(state):
        return tuple(sorted({mark for _, mark in block.units[state[1]].cols}))
    found = []
    for units, is_squeezed in state:
        found.extend(kept(block, units) if is_squeezed else marks_in(block, units))
    return tuple(sorted(set(found)))


def as_they_are(units):
    """The state of units as they are."""
    return tuple([((u,), 0) for u in units])


def squeezed(units):
    """The state of units squeezed in one part."""
    return ((units, 1),)


def is_squeezed_alone(state):
    """True for a state that is one squeezed part alone."""
    return not is_side(state) and len(state) == 1 and state[0][1] == 1


def whole_state(block):
    units = tuple(range(len(block.units)))
    return squeezed(units) if block.grouped else as_they_are(units)


def all_states(block):
    """All states of a block but sides."""
    sets = subsets(list(range(len(block.units))))
    found = []
    for _, units in sorted([(len(one), one) for one in sets if is_closed(block, one)]):
        if block.grouped:
            alone = squeezed(units)
            others = [state for state in partings(block, units) if state != alone]
            found.extend(sorted(others) + [alone])
        else:
            found.append(as_they_are(units))
    return tuple(found)


def subsets(things):
    """All subsets of things as tuples, in the sequence of the things."""
    found = [()]
    for thing in things:
        found = found + [one + (thing,) for one in found]
    return found


def partings(block, units):
    """All ways to part units into parts of states."""
    if units == ():
        return [()]
    found = []
    for chosen in subsets(units[1:]):
        own = units[:1] + chosen
        others = tuple([u for u in units if u not in own])
        flags = ([0] if chosen == () else []) + ([1] if is_closed(block, own) else [])
        for flag in flags:
            found.extend([((own, flag),) + more for more in partings(block, others)])
    return found
