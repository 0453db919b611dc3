"""Joins over all plans of two states at once.

Plans of a state are told by a dict of their orders to numbers, as a price depends on nothing else.
"""

from leastplans.joinsteps import join_told, why_join
from leastplans.keeping import is_closed
from leastplans.states import SIDE, units_of
from leastplans.stepways import over_two


def splits(block, state):
    """Pairs of states whose join may have a state that is closed."""
    choices = [((), ())]
    for part in state:
        longer = []
        for left, right in choices:
            longer.append((left + (part,), right))
            longer.append((left, right + (part,)))
        choices = longer
    found = []
    for left, right in choices:
        other = child_state(block, right)
        if left != () and is_closed(block, units_of(left)) and other is not None:
            found.append((left, other))
    return found


def looked_from(block, state):
    """The states, which are closed, of all parts but one unit as it is."""
    found = []
    for part in state:
        others = tuple([one for one in state if one != part])
        if not part[1] and others != () and is_closed(block, units_of(others)):
            found.append(others)
    return found


def child_state(block, parts):
    """The state of a right child with these parts, None if there is none."""
    if parts == ():
        return None
    if is_closed(block, units_of(parts)):
        return parts
    if len(parts) > 1:
        return None
    # a squeezed part is closed by itself, so this is an attachment as it is
    units, _ = parts[0]
    return (SIDE, units[0])


def joins_over(sizes, left_state, lefts, right_state, rights, barred):
    """Of each word and each left order the least join: (word, left order, right order, number)."""
    if not lefts or not rights:
        return []
    found = []
    best = least_order(list(rights), rights)
    for step, _, _, price in over_two(sizes, (left_state, ()), (right_state, ()), barred):
        for order in lefts:
            found.append((step[0], order, best, lefts[order] + rights[best] + price))
    if "merge" not in barred:
        found.extend(merges_over(sizes, left_state, lefts, right_state, rights))
    return found


def merges_over(sizes, left_state, lefts, right_state, rights):
    """Those of merges, which depend on the first marks of both orders."""
    seconds = [orders[0] for orders in parted_by_first(rights)]
    found = []
    for orders in parted_by_first(lefts):
        best = None
        for mark in [one[0] for one in seconds]:
            left = (left_state, orders[0][:1])
            right = (right_state, (mark,))
            if why_join(sizes, "merge", left, right) is None:
                other = least_order([one for one in rights if one[:1] == (mark,)], rights)
                number = rights[other] + join_told(sizes, "merge", left, right)[2]
                if best is None or number < best[0]:
                    best = (number, other)
        if best is not None:
            found.extend([("merge", order, best[1], lefts[order] + best[0]) for order in orders])
    return found


def parted_by_first(numbers):
    """The orders but (), those with one first mark in a list of their own."""
    found = {}
    for order in numbers:
        if order != ():
            found.setdefault(order[0], []).append(order)
    return list(found.values())


def least_order(orders, numbers):
    """The first one of the orders with the least number."""
    best = orders[0]
    for order in orders:
        if numbers[order] < numbers[best]:
            best = order
    return best
