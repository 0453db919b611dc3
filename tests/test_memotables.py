"""[71] [72] The tables of least plans, and the floors made of them."""

import random
import unittest

import drawnplans
import helper
from leastplans.ceilings import Ceilings
from leastplans.founds import Found, floors_from
from leastplans.judging import judged, judged_top
from leastplans.memotables import Memo
from leastplans.planshapes import nodes_of
from leastplans.states import all_states
from slowplans import WORDS, Every

SUMS = "select t.a, sum (t.b) as x, count (*) as n from t join s on t.a = s.a group by t.a"
T, S = ("scan", 0), ("scan", 1)


def states_of(block):
    """All states, sides first."""
    return [("side", u) for u, unit in enumerate(block.units) if unit.kind != "core"] + list(all_states(block))


def prices(table):
    return {order: table[order][0] for order in table}


def blocks_by_chance(seed):
    """(chance, block) of many blocks."""
    chance = random.Random(seed)
    for tell in (drawnplans.loose_facts, helper.tell_facts):
        for _, _, block in drawnplans.told_houses(seed, 1, (0,), tell):
            yield chance, block
    for _, block in helper.chance_blocks(seed, 40):
        if len(block.units) < 4:
            yield chance, block


class MemoTest(helper.Case):

    def setUp(self):
        self.block = helper.block(helper.shop(), SUMS)
        self.memo = Memo(sizes=Ceilings(self.block), barred=())

    def test_document(self):
        part = (((0,), 1),)
        made, whole = self.memo.made(state=part), self.memo.whole(state=part)
        self.assertEqual(sorted(made), [(), (0,)])
        self.same(made[()], (3000, ("bag", T)))
        self.same(made[(0,)], (13000, ("stream", ("sort", T, (0,)))))
        self.same(whole[(0,)], (3050, ("sort", ("bag", T), (0,))))
        self.same(whole[()], made[()])
        self.same(self.memo.tops()[()], (6070, ("give", ("bag", ("hash", ("bag", T), ("bag", S))))))

    def test_new_each_time(self):
        for call in (lambda: self.memo.made((((0,), 1),)), lambda: self.memo.whole((((0,), 1),)), self.memo.tops):
            first = call()
            wanted = dict(first)
            self.assertIs(type(first), dict)
            first.clear()
            self.assertEqual(call(), wanted)
            first[(7,)] = 1
            self.assertEqual(call(), wanted)

    def test_without_a_plan(self):
        """Squeezed parts of less than all units, if early is barred."""
        memo = Memo(Ceilings(self.block), ("early",))
        for state in all_states(self.block):
            is_early = any(flag and units != (0, 1) for units, flag in state)
            self.assertEqual(memo.made(state) == {}, is_early, state)
            self.assertEqual(memo.whole(state) == {}, is_early, state)
        self.same(min(prices(memo.tops()).values()), 2015010)

    def test_sorts(self):
        """Sorts are in whole alone; made has an order that a sort has, too, only if another plan has it."""
        block = helper.block(helper.shop(), "select t.a, t.b from t order by a")
        memo = Memo(Ceilings(block), ())
        one = (((0,), 0),)
        self.same(memo.made(one), {(): (1000, T)})
        self.same(memo.whole(one), {(): (1000, T), (0, 1): (1000 + 1000 + 10000, ("sort", T, (0, 1)))})
        self.same(memo.tops(), {(0, 1): (1000 + 1000 + 10000, ("give", T, "sorted"))})
        memo = Memo(Ceilings(block), ("sort",))
        self.same(memo.whole(one), memo.made(one))

    def test_any_sequence(self):
        """The tables do not depend on what is asked first."""
        states = states_of(self.block)
        wanted = [(self.memo.made(state), self.memo.whole(state)) for state in states]
        other = Memo(Ceilings(self.block), ())
        tops = other.tops()
        self.assertEqual([(other.made(state), other.whole(state)) for state in states[::-1]][::-1], wanted)
        self.assertEqual(self.memo.tops(), tops)

    def test_beside_all_plans(self):
        """The keys and prices are those of all plans, gone through one by one."""
        many = 0
        for chance, block in blocks_by_chance(711):
            barred = tuple(word for word in WORDS if chance.random() < 0.12)
            memo = Memo(Ceilings(block), barred)
            try:
                every = Every(block, barred, most=120)
            except OverflowError:
                continue
            many += 1
            made, whole = every.least(lambda plan: plan[0] != "sort"), every.least(lambda plan: True)
            for state in states_of(block):
                self.assertEqual(prices(memo.made(state)), {order: made[one, order] for one, order in made if one == state})
                self.assertEqual(prices(memo.whole(state)), {order: whole[one, order] for one, order in whole if one == state})
            tops = {}
            for price, _, outputs in every.tops:
                tops[outputs] = min(price, tops.get(outputs, price))
            self.assertEqual(prices(memo.tops()), tops)
        self.assertGreater(many, 150)

    def test_beside_all_plans_literally(self):
        """The same, with no plan left out for another one of its state and order."""
        for text in ("select t.a from t where t.b = 1 order by a", "select t.a, s.c from t, s where t.a = s.a order by c desc",
                     "select t.a, s.c from t left join s on t.a = s.a order by c", "select t.a, count (*) as n from t group by t.a",
                     "select t.a from t where exists (from s where s.a = t.a and s.c = 1)",
                     "select u.n, s.c from (select t.a, count (*) as n from t group by t.a) u left join s on s.a = u.n",
                     "select count (*) as n from t, s where t.a = s.a"):
            for lies, barred in ((True, ()), (False, ("early",))):
                house = helper.store()
                for table, ixname, cols in (("t", "ab", ("a", "b")), ("t", "b", ("b",)), ("s", "ac", ("a", "c"))):
                    house.retell(table, (("rows", 20), ("dist", "a", 4)) + ((("lies", ("a",)),) if lies else ()))
                    if "n from t, s" not in text:
                        house.add_index(table, ixname, cols)
                block = helper.block(house, text)
                every = Every(block, barred, literal=True)
                memo = Memo(Ceilings(block), barred)
                whole = every.least(lambda plan: True)
                for state in states_of(block):
                    self.assertEqual(prices(memo.whole(state)), {order: whole[one, order] for one, order in whole if one == state})
                self.assertEqual(min(price for price, _, _ in every.tops), min(prices(memo.tops()).values()))

    def test_judged(self):
        """judged tells of each plan its state, order and price, and each is free of barred words."""
        for chance, block in blocks_by_chance(712):
            barred = tuple(word for word in WORDS if chance.random() < 0.2)
            memo = Memo(Ceilings(block), barred)
            for state in states_of(block):
                for order, (price, plan) in memo.made(state).items():
                    self.same(judged(block, plan), (state, order, price))
                    self.assertNotEqual(plan[0], "sort")
                    self.free(block, plan, barred)
                for order, (price, plan) in memo.whole(state).items():
                    self.same(judged(block, plan), (state, order, price))
                    self.free(block, plan, barred)
            for order, (price, top) in memo.tops().items():
                self.same(judged_top(block, top)[:2], (order, price))

    def free(self, block, plan, barred):
        for path, node in nodes_of(plan):
            self.assertNotIn(node[0], barred)
            if node[0] in ("bag", "stream") and "early" in barred:
                # of the block in which it stands: above it is a give, the sort of one, or an inner block's
                own, at = block, plan
                for step in path:
                    if at[0] == "inner":
                        own = own.units[at[1]].source
                    at = [child for child in at[1:] if isinstance(child, tuple) and child and isinstance(child[0], str)][step]
                state, _, _ = judged(own, node)
                self.assertEqual(len(state[0][0]), len(own.units))


class FloorsFromTest(helper.Case):

    def test_found(self):
        found = Found(top=("give", T), price=3, floors=((), (), 3))
        self.same((found.top, found.price, found.floors), (("give", T), 3, ((), (), 3)))
        found = Found(1, 2, 3)
        self.same((found.top, found.price, found.floors), (1, 2, 3))

    def test_rows(self):
        """Sides by unit, then all states; made, then all, orders rising; the gives last."""
        for _, block in blocks_by_chance(721):
            memo = Memo(Ceilings(block), ())
            rows = []
            for state in states_of(block):
                for kind, table in (("made", memo.made(state)), ("all", memo.whole(state))):
                    rows += [(kind, state, order, table[order][0]) for order in sorted(table)]
            tops = memo.tops()
            rows += [("give", (), order, tops[order][0]) for order in sorted(tops)]
            self.same(floors_from(memo=memo, inner=(), price=7), ((), tuple(rows), 7))
        inner = ((0, ((), (), 5)),)
        self.same(floors_from(memo, inner, 8)[0::2], (inner, 8))

    def test_document(self):
        block = helper.block(helper.shop(), "select t.a from t")
        at = (((0,), 0),)
        self.same(floors_from(Memo(Ceilings(block), ()), (), 2000),
                  ((), (("made", at, (), 1000), ("all", at, (), 1000), ("give", (), (), 2000)), 2000))

    def test_sides(self):
        block = helper.block(helper.shop(), "select t.a from t left join s on s.a = t.a")
        rows = floors_from(Memo(Ceilings(block), ("hash", "merge")), (), 0)[1]
        side, t, both = ("side", 1), (((0,), 0),), (((0,), 0), ((1,), 0))
        loop = 2000 + 2000 + 10 ** 6
        self.same(rows, (
            ("made", side, (), 1000), ("all", side, (), 1000), ("all", side, (1,), 12000),
            ("made", t, (), 1000), ("all", t, (), 1000), ("all", t, (0,), 12000),
            ("made", both, (), loop), ("made", both, (0,), loop + 11000), ("all", both, (), loop), ("all", both, (0,), loop + 11000),
            ("give", (), (), loop + 10 ** 6), ("give", (), (0,), loop + 11000 + 10 ** 6)))


if __name__ == "__main__":
    unittest.main()
