"""Plans that are let, drawn by chance from the steps that the program tells."""

from leastplans.ceilings import Ceilings
from leastplans.leafsteps import inner_told
from leastplans.leafways import leaf_ways
from leastplans.stepways import gives_over, over_one, over_two, sorts_over


class Drawn:
    """A pool of let plans of a block: triples (plan, state, order)."""

    def __init__(self, chance, block, many, barred=()):
        self.chance = chance
        self.block = block
        self.barred = barred
        self.sizes = Ceilings(block)
        self.pool = [(step, state, order) for step, state, order, _ in leaf_ways(self.sizes, barred)]
        for u, unit in enumerate(block.units):
            if not isinstance(unit.source, str):
                for top, outputs in Drawn(chance, unit.source, many, barred).tops[-5:]:
                    state, order, _ = inner_told(self.sizes, u, outputs)
                    self.pool.append((("inner", u, top), state, order))
        self.seen = set(self.pool)
        for _ in range(many):
            self.grow()
        self.tops = []
        self.finish()

    def grow(self):
        """One more plan over those of the pool, where some step is let."""
        plan, state, order = self.chance.choice(self.pool)
        child = (state, order)
        found = []
        if plan[0] != "sort":
            found += [(("sort", plan, step[1]), *told) for step, *told in sorts_over(self.sizes, child, self.barred)]
        found += [((step[0], plan) + step[1:], *told) for step, *told in over_one(self.sizes, child, self.barred)]
        for _ in range(5):
            other, *right = self.chance.choice(self.pool)
            found += [((step[0], plan, other), *told)
                      for step, *told in over_two(self.sizes, child, tuple(right), self.barred)]
        if found:
            new, state, order, _ = self.chance.choice(found)
            if (new, state, order) not in self.seen:
                self.seen.add((new, state, order))
                self.pool.append((new, state, order))

    def finish(self):
        """Tops, at least one: what is not of the whole state is joined by loops."""
        plan, state, order = self.chance.choice([one for one in self.pool if one[1][0] != "side"])
        while True:
            rest = [other for other in self.pool if over_two(self.sizes, (state, order), other[1:], ())]
            if not rest:
                break
            other = self.chance.choice(rest)
            step, state, order, _ = self.chance.choice(over_two(self.sizes, (state, order), other[1:], self.barred))
            plan = (step[0], plan, other[0])
        if self.block.grouped and not (len(state) == 1 and state[0][1]):
            plan, state, order = ("bag", plan), ((tuple(sorted(u for part, _ in state for u in part)), 1),), ()
        for one, state, order in self.pool + [(plan, state, order)]:
            self.tops += [(("give", one) + step[1:], outputs) for step, outputs, _ in gives_over(self.sizes, (state, order))]
