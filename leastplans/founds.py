"""What choosing finds, and its floors."""

from leastplans.states import SIDE, all_states


class Found:
    """The least top of a block, its price, and the floors that show it."""

    def __init__(self, top, price, floors):
        self.top = top
        self.price = price
        self.floors = floors


def floors_from(memo, inner, price):
    """The floors (inner, rows, price) with a row for each entry of a Memo."""
    block = memo.sizes.block
    rows = []
    sides = [(SIDE, u) for u, unit in enumerate(block.units) if unit.kind != "core"]
    for state in sides + list(all_states(block)):
        rows.extend(floor_rows("made", state, memo.made(state)))
        rows.extend(floor_rows("all", state, memo.whole(state)))
    rows.extend(floor_rows("give", (), memo.tops()))
    return (inner, tuple(rows), price)


def floor_rows(kind, state, table):
    """A row for each entry of a table, orders rising."""
    return [(kind, state, order, table[order][0]) for order in sorted(table)]
