"""Choosing the least top of a block."""

from leastplans.ceilings import Ceilings
from leastplans.founds import Found, floors_from
from leastplans.memotables import Memo, inner_units


def least(block, barred):
    """The Found of a block: a least top that is free of barred words."""
    return found_by(Memo(Ceilings(block), barred))


def found_by(memo):
    best = None
    tops = memo.tops()
    for order in tops:
        if best is None or tops[order][0] < best[0]:
            best = tops[order]
    price, top = best
    # the Memos of inner blocks are those that told their least tops, so none is made twice
    units = inner_units(memo.sizes.block)
    inner = tuple([(u, found_by(memo.inside_memo(u)).floors) for u in units])
    return Found(top, price, floors_from(memo, inner, price))
