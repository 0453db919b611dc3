"""The last step of a plan for a whole block."""

from leastplans.lifts import lift
from leastplans.states import is_side, whole_state
from leastplans.wantings import is_settled, run_of, wanted_order


def why_give(sizes, word, child):
    """Why a give, or a sorted one, over a child is not let, or None."""
    state, order = child
    block = sizes.block
    if is_side(state):
        return "side"
    if state != whole_state(block):
        return "whole"
    if word == "sorted":
        return None if block.listed else "plain"
    return "unsorted" if block.listed and not is_settled(sizes, state, order) else None


def give_told(sizes, word, child):
    """(order of outputs, local price, ceiling of rows) of a give over a child."""
    state, order = child
    size = sizes.bag_size(state)
    if word == "give":
        return (outputs_of(sizes.block, order), size, most_rows(sizes, size))
    price = size + size * lift(run_of(sizes, state, order))
    return (outputs_sorted(sizes.block), price, most_rows(sizes, size))


def most_rows(sizes, size):
    """How many rows the meaning of the block has at most."""
    block = sizes.block
    most = 1 if block.bare() else size
    return most if block.limit is None else min(most, block.limit)


def outputs_of(block, order):
    """The least outputs that are the marks of an order, up to the first one that is none."""
    found = []
    for mark in order:
        if ("mark", mark) not in block.outs:
            break
        found.append(block.outs.index(("mark", mark)))
    return tuple(found)


def outputs_sorted(block):
    """The outputs of the wanted order up to its first member that goes down, each once."""
    found = []
    for place, how in wanted_order(block):
        if how == "desc":
            break
        if place not in found:
            found.append(place)
    return tuple(found)
