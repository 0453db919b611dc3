"""The steps over one plan that sort or squeeze its rows."""

from leastplans.lifts import lift
from leastplans.states import is_side, is_squeezed_alone, squeezed, units_of
from leastplans.wantings import begin_alike, free_kept, wanted


def why_sort(sizes, child, is_sorted, marks):
    """Why a sort by marks over a child is not let, or None."""
    if is_sorted:
        return "twice"
    return None if marks in wanted(sizes, child[0]) else "target"


def sort_told(sizes, child, marks):
    """(state, order, local price) of a sort over a child."""
    state, order = child
    size = sizes.bag_size(state)
    alike = sizes.by(state, marks[:begin_alike(order, marks)])
    return (state, marks, size + size * lift(alike))


def why_squeeze(sizes, word, child):
    """Why a bag or stream over a child is not let, or None."""
    state, order = child
    if is_side(state):
        return "side"
    if not sizes.block.grouped:
        return "plain"
    if is_squeezed_alone(state):
        return "twice"
    if word == "stream":
        marks = free_kept(sizes, units_of(state))
        if tuple(sorted(order[:len(marks)])) != marks:
            return "order"
    return None


def squeeze_told(sizes, word, child):
    """(state, order, local price) of a bag or stream over a child."""
    state, order = child
    size = sizes.bag_size(state)
    units = units_of(state)
    if word == "bag":
        return (squeezed(units), (), 2 * size)
    return (squeezed(units), order[:len(free_kept(sizes, units))], size)
