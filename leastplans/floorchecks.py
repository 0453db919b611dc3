"""Whether any value is floors that fit a block."""

from leastplans.ceilings import Ceilings
from leastplans.floorrows import is_floors
from leastplans.joinways import joins_over, splits
from leastplans.leafsteps import inner_told
from leastplans.leafways import leaf_ways
from leastplans.memotables import inner_units
from leastplans.states import SIDE, all_states, seen, whole_state
from leastplans.stepways import gives_over, looks_over, sorts_over, squeezes_over


class FloorTable:
    """Floors of the form of a block: the least number of each kind, state and order."""

    def __init__(self, sizes, floors, barred):
        self.sizes = sizes
        self.barred = barred
        self.inner = floors[0]
        self.price = floors[2]
        self.numbers = {"made": {}, "all": {}, "give": {}}
        for kind, state, order, number in floors[1]:
            orders = self.numbers[kind].setdefault(state, {})
            orders[order] = min(number, orders.get(order, number))

    def orders_of(self, kind, state):
        """A dict of the orders of a kind and state to their numbers."""
        return self.numbers[kind].get(state, {})

    def first_missing(self, asked):
        """The first one of rows that are asked for which the floors do not have, or None."""
        for row in asked:
            kind, state, order, number = row
            orders = self.orders_of(kind, state)
            if order not in orders or orders[order] > number:
                return row
        return None


def floors_fit(block, floors, barred):
    """None if floors fit a block, else (word, what) of the first clause that is broken."""
    return misfit(Ceilings(block), floors, barred)


def misfit(sizes, floors, barred):
    if not is_floors(floors) or not is_of_block(sizes.block, floors):
        return ("form", None)
    for u, below in floors[0]:
        found = misfit(sizes.inside(u), below, barred)
        if found is not None:
            return ("inner", (u, found))
    table = FloorTable(sizes, floors, barred)
    for word, asked_rows in CLAUSES:
        row = table.first_missing(asked_rows(table))
        if row is not None:
            return (word, row)
    gives = table.orders_of("give", ())
    if not gives or min(gives.values()) != table.price:
        return ("root", None)
    return None


def is_of_block(block, floors):
    """True if floors have inner ones, states, orders and outputs that are those of a block."""
    if [u for u, _ in floors[0]] != inner_units(block):
        return False
    marks = {state: seen(block, state) for state in all_states(block)}
    for u, unit in enumerate(block.units):
        if unit.kind != "core":
            marks[(SIDE, u)] = seen(block, (SIDE, u))
    for kind, state, order, _ in floors[1]:
        if kind == "give":
            if any(place >= len(block.outs) for place in order):
                return False
        elif state not in marks or any(mark not in marks[state] for mark in order):
            return False
    return True


def asked_leaves(table):
    """The rows that are asked for by leaf steps, inner ones too."""
    found = []
    for _, state, order, price in leaf_ways(table.sizes, table.barred):
        found.append(("made", state, order, price))
    for u, below in table.inner:
        for kind, _, outputs, number in below[1]:
            if kind == "give":
                state, order, price = inner_told(table.sizes, u, outputs)
                found.append(("made", state, order, number + price))
    return found


def asked_wholes(table):
    """Those by the clause all."""
    return [("all", state, order, number) for state, order, number in entries_of_kind(table, "made")]


def asked_sorts(table):
    found = []
    for state, order, number in entries_of_kind(table, "made"):
        for _, own, marks, price in sorts_over(table.sizes, (state, order), table.barred):
            found.append(("all", own, marks, number + price))
    return found


def asked_joins(table):
    """Those by joins; of joins that ask for one state and order the least stand for all."""
    found = []
    for state in all_states(table.sizes.block):
        for left, right in splits(table.sizes.block, state):
            told = joins_over(
                table.sizes, left, table.orders_of("all", left), right,
                table.orders_of("all", right), table.barred)
            found.extend([("made", state, order, number) for _, order, _, number in told])
    return found


def asked_looks(table):
    found = []
    for left in list(table.numbers["all"]):
        orders = table.orders_of("all", left)
        for _, state, _, price in looks_over(table.sizes, (left, ()), table.barred):
            found.extend([("made", state, order, orders[order] + price) for order in orders])
    return found


def asked_squeezes(table):
    found = []
    for state, order, number in entries_of_kind(table, "all"):
        for _, own, marks, price in squeezes_over(table.sizes, (state, order), table.barred):
            found.append(("made", own, marks, number + price))
    return found


def asked_gives(table):
    found = []
    whole = whole_state(table.sizes.block)
    orders = table.orders_of("all", whole)
    for order in orders:
        for _, outputs, price in gives_over(table.sizes, (whole, order)):
            found.append(("give", (), outputs, orders[order] + price))
    return found


def entries_of_kind(table, kind):
    """Triples (state, order, number) of all rows of a kind."""
    found = []
    for state in list(table.numbers[kind]):
        orders = table.orders_of(kind, state)
        found.extend([(state, order, orders[order]) for order in orders])
    return found


CLAUSES = (
    ("leaf", asked_leaves), ("all", asked_wholes), ("sort", asked_sorts), ("join", asked_joins),
    ("look", asked_looks), ("squeeze", asked_squeezes), ("give", asked_gives),
)
