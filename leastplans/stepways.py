"""The steps that are let over children, pairs (state, order)."""

from leastplans.joinsteps import join_told, look_told, why_join, why_look
from leastplans.onesteps import sort_told, squeeze_told, why_sort, why_squeeze
from leastplans.states import units_of
from leastplans.topsteps import give_told, why_give
from leastplans.wantings import wanted


def over_one(sizes, child, barred):
    """Quadruples (step, state, order, local price) of all looks, bags and streams over a child."""
    return tuple(looks_over(sizes, child, barred) + squeezes_over(sizes, child, barred))


def looks_over(sizes, child, barred):
    """Those of all looks."""
    found = []
    if "look" in barred:
        return found
    for u, unit in enumerate(sizes.block.units):
        for ixname, places in unit.indexed:
            for many in range(1, len(places) + 1):
                if why_look(sizes, child, u, ixname, many) is None:
                    told = look_told(sizes, child, u, ixname, many)
                    found.append((("look", u, ixname, many),) + told)
    return found


def squeezes_over(sizes, child, barred):
    """Those of all bags and streams."""
    is_early = len(units_of(child[0])) < len(sizes.block.units)
    if is_early and "early" in barred:
        return []
    found = []
    for word in ("bag", "stream"):
        if word not in barred and why_squeeze(sizes, word, child) is None:
            found.append(((word,),) + squeeze_told(sizes, word, child))
    return found


def over_two(sizes, left, right, barred):
    """Quadruples (step, state, order, local price) of all loops, hashes and merges over two children."""
    found = []
    for word in ("loop", "hash", "merge"):
        if word not in barred and why_join(sizes, word, left, right) is None:
            found.append(((word,),) + join_told(sizes, word, left, right))
    return tuple(found)


def sorts_over(sizes, child, barred):
    """Quadruples (step, state, order, local price) of all sorts over a child that is no sort."""
    found = []
    if "sort" in barred:
        return ()
    for marks in wanted(sizes, child[0]):
        if why_sort(sizes, child, False, marks) is None:
            found.append((("sort", marks),) + sort_told(sizes, child, marks))
    return tuple(found)


def gives_over(sizes, child):
    """Triples (step, order of outputs, local price) of all gives over a child."""
    found = []
    for step in (("give",), ("give", "sorted")):
        if why_give(sizes, step[-1], child) is None:
            order, price, _ = give_told(sizes, step[-1], child)
            found.append((step, order, price))
    return tuple(found)
