"""All plans of a block, gone through one by one, by the words of the document alone."""

import slow

WORDS = ("walk", "seek", "look", "hash", "merge", "sort", "stream", "early")


class Every:
    """All plans of a block that are let and free of barred words.

    If literal is true each plan stands by itself, else one of the least price stands for all those of
    one state and order that are sorts, and one for all that are none: what may stand over them, and
    what it costs, depends on nothing else.
    """

    def __init__(self, block, barred=(), literal=False, most=None):
        self.block = block
        self.barred = barred
        self.literal = literal
        self.most = most
        self.plans = {}
        self.inner = {}
        self.waiting = []
        self.start()
        while self.waiting:
            key = self.waiting.pop(0)
            for plan in self.above(self.plans[key]):
                self.add(plan)
        self.tops = []
        for _, plan, _, _ in list(self.plans.values()):
            for top in (("give", plan), ("give", plan, "sorted")):
                try:
                    outputs, price, _ = slow.judge_top(block, top)
                except slow.Refused:
                    continue
                self.tops.append((price, top, outputs))

    def start(self):
        for u, unit in enumerate(self.block.units):
            if not isinstance(unit.source, str):
                self.inner[u] = Every(unit.source, self.barred, self.literal, self.most)
                for _, top, _ in self.inner[u].least_tops():
                    self.add(("inner", u, top))
                continue
            self.add(("scan", u))
            for ixname, places in unit.indexed:
                self.add(("walk", u, ixname))
                for many in range(1, len(places) + 1):
                    self.add(("seek", u, ixname, many))

    def least_tops(self):
        if self.literal:
            return self.tops
        return [min(one for one in self.tops if one[2] == outputs) for outputs in {one[2] for one in self.tops}]

    def is_barred(self, plan, state):
        if plan[0] in self.barred:
            return True
        is_early = len(slow.units(state)) < len(self.block.units)
        return plan[0] in ("bag", "stream") and is_early and "early" in self.barred

    def add(self, plan):
        try:
            state, order, price = slow.judge(self.block, plan)
        except slow.Refused:
            return
        if self.is_barred(plan, state):
            return
        key = plan if self.literal else (state, order, plan[0] == "sort")
        if key not in self.plans or price < self.plans[key][0]:
            self.plans[key] = (price, plan, state, order)
            self.waiting.append(key)
            if self.most is not None and len(self.plans) > self.most:
                raise OverflowError

    def above(self, told):
        """What may stand over a plan alone, or over it and another one."""
        _, plan, state, _ = told
        found = [("bag", plan), ("stream", plan)] if self.block.grouped else []
        found += [("sort", plan, marks) for marks in slow.wanted(self.block, state)]
        for u, unit in enumerate(self.block.units):
            if u not in slow.units(state):
                for ixname, places in unit.indexed:
                    found += [("look", plan, u, ixname, many) for many in range(1, len(places) + 1)]
        for _, other, other_state, _ in list(self.plans.values()):
            if not slow.units(state) & slow.units(other_state):
                for word in ("loop", "hash", "merge"):
                    found += [(word, plan, other), (word, other, plan)]
        return found

    def least(self, keep):
        """A dict of (state, order) to the least price of the plans that are kept."""
        found = {}
        for price, plan, state, order in self.plans.values():
            if keep(plan):
                found[state, order] = min(price, found.get((state, order), price))
        return found
