"""What each step of a plan may cost and give."""

from leastplans.judging import nodes_told
from leastplans.planshapes import nodes_of
from leastplans.plantexts import words_of_node


def step_ceilings(block, top):
    """Quintuples (path, word, ceiling of rows, local price, order), one for each node of a top."""
    found = nodes_told(block, top)
    rows = []
    for path, node in nodes_of(top):
        told = found[path]
        rows.append((path, words_of_node(node), told.rows, told.price, told.order))
    return tuple(rows)
