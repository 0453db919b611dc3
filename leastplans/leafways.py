"""The steps that read tables and are let."""

from leastplans.leafsteps import leaf_told, why_leaf


def leaf_ways(sizes, barred):
    """Quadruples (step, state, order, price) of all scans, walks and seeks that are let and not barred."""
    found = []
    for u, unit in enumerate(sizes.block.units):
        steps = [("scan", u)]
        steps.extend([("walk", u, ixname) for ixname, _ in unit.indexed])
        for ixname, places in unit.indexed:
            steps.extend([("seek", u, ixname, many) for many in range(1, len(places) + 1)])
        for step in steps:
            if step[0] not in barred and why_leaf(sizes, step) is None:
                found.append((step,) + leaf_told(sizes, step))
    return tuple(found)
