"""Whether any value is a plan that is let, and what it has then."""

from leastplans.ceilings import Ceilings
from leastplans.errors import BadPlan
from leastplans.joinsteps import join_told, look_told, why_join, why_look
from leastplans.leafsteps import inner_told, leaf_told, why_leaf
from leastplans.onesteps import sort_told, squeeze_told, why_sort, why_squeeze
from leastplans.planshapes import shape_of, top_shape
from leastplans.topsteps import give_told, why_give
from leastplans.unitmarks import has_table


def judged(block, plan):
    """(state, order, price) of a plan; raises where it is not let."""
    check_shape(shape_of(plan))
    return judge_plan(Ceilings(block), (), plan)


def judged_top(block, top):
    """(order of outputs, price, ceiling of rows) of a top; raises where it is not let."""
    check_shape(top_shape(top))
    return judge_top(Ceilings(block), (), top)


def check_shape(path):
    if path is not None:
        raise BadPlan(path, "kind")


def check_let(path, why):
    if why is not None:
        raise BadPlan(path, why)


def judge_top(sizes, path, top):
    word = "give" if len(top) == 2 else "sorted"
    state, order, price = judge_plan(sizes, path + (0,), top[1])
    check_let(path, why_give(sizes, word, (state, order)))
    outputs, local, rows = give_told(sizes, word, (state, order))
    return (outputs, price + local, rows)


def judge_plan(sizes, path, plan):
    """(state, order, price) of the plan that stands at a path."""
    if plan[0] in ("scan", "walk", "seek"):
        check_let(path, why_leaf(sizes, plan))
        return leaf_told(sizes, plan)
    if plan[0] == "inner":
        return judge_inner(sizes, path, plan)
    state, order, price = judge_plan(sizes, path + (0,), plan[1])
    left = (state, order)
    if plan[0] in ("loop", "hash", "merge"):
        state, order, more = judge_plan(sizes, path + (1,), plan[2])
        price += more
        check_let(path, why_join(sizes, plan[0], left, (state, order)))
        told = join_told(sizes, plan[0], left, (state, order))
    else:
        check_let(path, why_over(sizes, plan, left))
        told = told_over(sizes, plan, left)
    return (told[0], told[1], price + told[2])


def judge_inner(sizes, path, plan):
    """An inner step is judged ahead of its top."""
    _, u, top = plan
    if u >= len(sizes.block.units):
        raise BadPlan(path, "unit")
    if has_table(sizes.block.units[u]):
        raise BadPlan(path, "source")
    outputs, price, _ = judge_top(sizes.inside(u), path + (0,), top)
    state, order, local = inner_told(sizes, u, outputs)
    return (state, order, price + local)


def why_over(sizes, plan, child):
    """Why a step over one plan is not let, or None."""
    if plan[0] == "sort":
        return why_sort(sizes, child, plan[1][0] == "sort", plan[2])
    if plan[0] == "look":
        return why_look(sizes, child, plan[2], plan[3], plan[4])
    return why_squeeze(sizes, plan[0], child)


def told_over(sizes, plan, child):
    if plan[0] == "sort":
        return sort_told(sizes, child, plan[2])
    if plan[0] == "look":
        return look_told(sizes, child, plan[2], plan[3], plan[4])
    return squeeze_told(sizes, plan[0], child)
