"""Whether any value is a plan that is let, and what it has then."""

from leastplans.ceilings import Ceilings
from leastplans.errors import BadPlan
from leastplans.joinsteps import join_told, look_told, why_join, why_look
from leastplans.leafsteps import inner_told, leaf_told, why_leaf
from leastplans.onesteps import sort_told, squeeze_told, why_sort, why_squeeze
from leastplans.planshapes import children_of, shape_of, top_shape
from leastplans.topsteps import give_told, why_give
from leastplans.unitmarks import has_table

LEAVES = ("scan", "walk", "seek")
JOINS = ("loop", "hash", "merge")


class NodeTold:
    """What is told of a node that is let: price is the local one, rows are at most so many.

    sizes is of the block in which the node stands; the state of a give is that of its plan.
    """

    def __init__(self, node, sizes, state, order, price, rows):
        self.node = node
        self.sizes = sizes
        self.state = state
        self.order = order
        self.price = price
        self.rows = rows


def judged(block, plan):
    """(state, order, price) of a plan; raises where it is not let."""
    check_shape(shape_of(plan))
    found = nodes_told(block, plan)
    return (found[()].state, found[()].order, whole_price(found))


def judged_top(block, top):
    """(order of outputs, price, ceiling of rows) of a top; raises where it is not let."""
    check_shape(top_shape(top))
    found = nodes_told(block, top)
    return (found[()].order, whole_price(found), found[()].rows)


def check_shape(path):
    if path is not None:
        raise BadPlan(path, "kind")


def check_let(path, why):
    if why is not None:
        raise BadPlan(path, why)


def whole_price(found):
    return sum([told.price for told in list(found.values())])


def nodes_told(block, thing):
    """A dict of the paths of a formed plan or top to NodeTolds; raises where one is not let.

    Plans that were read may be deeper than calls can be, so nodes wait in a list for their children.
    """
    found = {}
    waiting = [((), thing, Ceilings(block), False)]
    while waiting:
        path, node, sizes, is_turn = waiting.pop()
        below = children_of(node)
        if is_turn:
            children = [found[path + (at,)] for at in range(len(below))]
            found[path] = node_told(sizes, path, node, children)
            continue
        waiting.append((path, node, sizes, True))
        inside = sizes_below(sizes, path, node)
        for at in range(len(below) - 1, -1, -1):
            waiting.append((path + (at,), below[at][1], inside, False))
    return found


def sizes_below(sizes, path, node):
    """The Ceilings for the children of a node; an inner step is judged ahead of its top."""
    if node[0] != "inner":
        return sizes
    if node[1] >= len(sizes.block.units):
        raise BadPlan(path, "unit")
    if has_table(sizes.block.units[node[1]]):
        raise BadPlan(path, "source")
    return sizes.inside(node[1])


def node_told(sizes, path, node, children):
    """The NodeTold of a node whose children are let; raises if it is not let."""
    below = [(told.state, told.order) for told in children]
    if node[0] == "give":
        word = "give" if len(node) == 2 else "sorted"
        check_let(path, why_give(sizes, word, below[0]))
        order, price, rows = give_told(sizes, word, below[0])
        return NodeTold(node, sizes, children[0].state, order, price, rows)
    check_let(path, why_step(sizes, node, children, below))
    state, order, price = step_told(sizes, node, below)
    return NodeTold(node, sizes, state, order, price, sizes.bag_size(state))


def why_step(sizes, node, children, below):
    """Why a step over children is not let, or None."""
    if node[0] == "inner":
        return None
    if node[0] in LEAVES:
        return why_leaf(sizes, node)
    if node[0] in JOINS:
        return why_join(sizes, node[0], below[0], below[1])
    if node[0] == "sort":
        return why_sort(sizes, below[0], children[0].node[0] == "sort", node[2])
    if node[0] == "look":
        return why_look(sizes, below[0], node[2], node[3], node[4])
    return why_squeeze(sizes, node[0], below[0])


def step_told(sizes, node, below):
    """(state, order, local price) of a step that is let over such children."""
    if node[0] == "inner":
        return inner_told(sizes, node[1], below[0][1])
    if node[0] in LEAVES:
        return leaf_told(sizes, node)
    if node[0] in JOINS:
        return join_told(sizes, node[0], below[0], below[1])
    if node[0] == "sort":
        return sort_told(sizes, below[0], node[2])
    if node[0] == "look":
        return look_told(sizes, below[0], node[2], node[3], node[4])
    return squeeze_told(sizes, node[0], below[0])
