"""Tables of the least prices of plans."""

from leastplans.joinways import joins_over, looked_from, splits
from leastplans.leafsteps import inner_told
from leastplans.leafways import leaf_ways
from leastplans.states import all_states, is_side, is_squeezed_alone, units_of, whole_state
from leastplans.stepways import gives_over, looks_over, sorts_over, squeezes_over
from leastplans.unitmarks import has_table


class Memo:
    """The least plans of a block that are free of barred words, by state and order."""

    def __init__(self, sizes, barred):
        self.sizes = sizes
        self.barred = barred
        self.made_tables = {}
        self.whole_tables = {}
        self.looks = {}
        self.insides = {}
        self.leaves = None

    def made(self, state):
        """A dict of orders to pairs (price, plan), of plans of a state that are no sorts."""
        return copied(self.made_table(state))

    def whole(self, state):
        """The same of all plans of a state."""
        return copied(self.whole_table(state))

    def tops(self):
        """The same of all tops, by order of outputs."""
        found = {}
        table = self.whole_table(whole_state(self.sizes.block))
        for order in table:
            price, plan = table[order]
            for step, outputs, local in gives_over(self.sizes, (whole_state(self.sizes.block), order)):
                keep_least(found, outputs, price + local, ("give", plan) + step[1:])
        return found

    def made_table(self, state):
        if state not in self.made_tables:
            self.made_tables[state] = least_made(self, state)
        return self.made_tables[state]

    def whole_table(self, state):
        if state not in self.whole_tables:
            self.whole_tables[state] = with_sorts(self, state)
        return self.whole_tables[state]

    def numbers_of(self, state):
        """A dict of the orders of all plans of a state to their least prices."""
        table = self.whole_table(state)
        return {order: table[order][0] for order in table}

    def looks_at(self, state):
        """All looks over plans of a state, which do not depend on their orders."""
        if state not in self.looks:
            self.looks[state] = looks_over(self.sizes, (state, ()), self.barred)
        return self.looks[state]

    def leaf_plans(self):
        """Quadruples (plan, state, order, price) of all plans that are one step, or an inner one."""
        if self.leaves is None:
            self.leaves = list(leaf_ways(self.sizes, self.barred)) + inner_plans(self)
        return self.leaves

    def inside_memo(self, u):
        """The Memo of the block that is the source of a unit."""
        if u not in self.insides:
            self.insides[u] = Memo(self.sizes.inside(u), self.barred)
        return self.insides[u]


def copied(table):
    return {order: table[order] for order in table}


def keep_least(found, order, price, plan):
    """Keeps a plan for an order if it has the least price so far."""
    if order not in found or price < found[order][0]:
        found[order] = (price, plan)


def inner_plans(memo):
    """Those of inner steps."""
    found = []
    for u in inner_units(memo.sizes.block):
        tops = memo.inside_memo(u).tops()
        for outputs in tops:
            price, top = tops[outputs]
            state, order, local = inner_told(memo.sizes, u, outputs)
            found.append((("inner", u, top), state, order, price + local))
    return found


def inner_units(block):
    """The units whose source is a block."""
    return [u for u, unit in enumerate(block.units) if not has_table(unit)]


def least_made(memo, state):
    """The least plans of a state that are no sorts."""
    found = {}
    for plan, own, order, price in memo.leaf_plans():
        if own == state:
            keep_least(found, order, price, plan)
    if is_side(state):
        return found
    if is_squeezed_alone(state):
        keep_squeezes(memo, state, found)
    else:
        keep_joins(memo, state, found)
        keep_looks(memo, state, found)
    return found


def keep_squeezes(memo, state, found):
    for other in all_states(memo.sizes.block):
        if units_of(other) == units_of(state) and other != state:
            table = memo.whole_table(other)
            for order in table:
                price, plan = table[order]
                for step, _, own, local in squeezes_over(memo.sizes, (other, order), memo.barred):
                    keep_least(found, own, price + local, (step[0], plan))


def keep_joins(memo, state, found):
    for left, right in splits(memo.sizes.block, state):
        lefts = memo.whole_table(left)
        rights = memo.whole_table(right)
        told = joins_over(
            memo.sizes, left, memo.numbers_of(left), right, memo.numbers_of(right), memo.barred)
        for word, order, other, price in told:
            keep_least(found, order, price, (word, lefts[order][1], rights[other][1]))


def keep_looks(memo, state, found):
    for left in looked_from(memo.sizes.block, state):
        table = memo.whole_table(left)
        for step, own, _, local in memo.looks_at(left):
            if own == state:
                for order in table:
                    price, plan = table[order]
                    keep_least(found, order, price + local, ("look", plan) + step[1:])


def with_sorts(memo, state):
    """The least plans of a state, sorts too."""
    table = memo.made_table(state)
    found = copied(table)
    for order in table:
        price, plan = table[order]
        for step, _, own, local in sorts_over(memo.sizes, (state, order), memo.barred):
            keep_least(found, own, price + local, ("sort", plan, step[1]))
    return found
