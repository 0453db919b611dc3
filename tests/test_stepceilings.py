"""[77] [78] What each step may cost and give."""

import random
import unittest

import drawnplans
import helper
import slow
from leastplans.judging import judged_top
from leastplans.planshapes import nodes_of
from leastplans.plantexts import plan_text
from leastplans.stepceilings import step_ceilings

SUMS = "select t.a, sum (t.b) as x, count (*) as n from t join s on t.a = s.a group by t.a"
T, S = ("scan", 0), ("scan", 1)


class CeilingsTest(helper.Case):

    def check(self, text, top, *wanted, house=None):
        block = helper.block(house or helper.shop(), text)
        self.same(step_ceilings(block=block, top=top), wanted)
        self.same(step_ceilings(block, top), wanted)

    def test_document(self):
        self.check(SUMS, ("give", ("bag", ("hash", ("bag", T), ("bag", S)))),
                   ((), "give", 10, 10, ()), ((0,), "bag", 10, 20, ()), ((0, 0), "hash", 10, 40, ()),
                   ((0, 0, 0), "bag", 10, 2000, ()), ((0, 0, 0, 0), "scan 0", 1000, 1000, ()),
                   ((0, 0, 1), "bag", 10, 2000, ()), ((0, 0, 1, 0), "scan 1", 1000, 1000, ()))

    def test_orders(self):
        """Marks for steps, places of outputs for gives."""
        text = "select t.b, t.a, t.a as c from t order by a"
        self.check(text, ("give", T, "sorted"), ((), "give sorted", 1000, 11000, (1, 0, 2)), ((0,), "scan 0", 1000, 1000, ()))
        self.check(text, ("give", ("sort", T, (0, 1))), ((), "give", 1000, 1000, (1, 0)), ((0,), "sort 0 1", 1000, 11000, (0, 1)),
                   ((0, 0), "scan 0", 1000, 1000, ()))

    def test_words(self):
        house = helper.shop()
        house.add_index("t", "bya", ("a",))
        house.add_index("s", "byac", ("a", "c"))
        self.check("select t.b, s.c from t, s where t.a = s.a and t.a = 3", ("give", ("look", ("seek", 0, "bya", 1), 1, "byac", 1)),
                   ((), "give", 10 ** 6, 10 ** 6, ()), ((0,), "look 1 byac 1", 10 ** 6, 1000 + 1000 * (10 + 1 + 2000), ()),
                   ((0, 0), "seek 0 bya 1", 1000, 10 + 1 + 2000, ()), house=house)
        self.check("select t.a from t where exists (from s where s.a = t.a)", ("give", ("merge", ("walk", 0, "bya"), ("walk", 1, "byac"))),
                   ((), "give", 1000, 1000, (0,)), ((0,), "merge", 1000, 2000 + 10 ** 6, (0,)), ((0, 0), "walk 0 bya", 1000, 2000, (0,)),
                   ((0, 1), "walk 1 byac", 1000, 2000, (1,)), house=house)

    def test_limits_and_bare(self):
        self.check("select t.a from t limit 7", ("give", ("sort", T, (0,))), ((), "give", 7, 1000, (0,)), ((0,), "sort 0", 1000, 11000, (0,)),
                   ((0, 0), "scan 0", 1000, 1000, ()))
        self.check("select t.a from t limit 0", ("give", T, "sorted"), ((), "give sorted", 0, 11000, (0,)), ((0,), "scan 0", 1000, 1000, ()))
        self.check("select t.a from t limit 2000", ("give", T, "sorted"), ((), "give sorted", 1000, 11000, (0,)), ((0,), "scan 0", 1000, 1000, ()))
        text = "select count (*) as n from t"
        self.check(text, ("give", ("bag", T)), ((), "give", 1, 1, ()), ((0,), "bag", 1, 2000, ()), ((0, 0), "scan 0", 1000, 1000, ()))
        self.check(text, ("give", ("stream", T)), ((), "give", 1, 1, ()), ((0,), "stream", 1, 1000, ()), ((0, 0), "scan 0", 1000, 1000, ()))
        self.check(text + " limit 0", ("give", ("bag", T), "sorted"), ((), "give sorted", 0, 1, (0,)), ((0,), "bag", 1, 2000, ()),
                   ((0, 0), "scan 0", 1000, 1000, ()))
        # a bare block without a row may have no row below its give
        house = helper.shop()
        house.retell("t", (("rows", 0),))
        self.check(text, ("give", ("bag", T)), ((), "give", 1, 0, ()), ((0,), "bag", 0, 0, ()), ((0, 0), "scan 0", 0, 0, ()), house=house)

    def test_inner(self):
        """Nodes within an inner step are told of the block that is the source."""
        text = "select u.n, u.b from (select t.b, count (*) as n from t group by t.b limit 5) u"
        top = ("give", ("inner", 0, ("give", ("stream", ("sort", T, (0,))), "sorted")))
        self.check(text, top, ((), "give", 5, 5, (1, 0)), ((0,), "inner 0", 5, 5, (0, 1)),
                   ((0, 0), "give sorted", 5, 1000, (0, 1)),
                   ((0, 0, 0), "stream", 1000, 1000, (0,)), ((0, 0, 0, 0), "sort 0", 1000, 11000, (0,)), ((0, 0, 0, 0, 0), "scan 0", 1000, 1000, ()))

    def test_beside_slow_ones(self):
        """Each node by itself; the local prices add up to the price of the top."""
        chance = random.Random(77)
        for _, block in helper.chance_blocks(771, 60):
            for top, outputs in drawnplans.Drawn(chance, block, 12).tops[-4:]:
                told = step_ceilings(block, top)
                self.same([path for path, *_ in told], [path for path, _ in nodes_of(top)])
                self.same([word for _, word, *_ in told], [line.lstrip() for line in plan_text(top).split("\n")])
                order, price, rows = judged_top(block, top)
                self.same(sum(local for _, _, _, local, _ in told), price)
                self.same((told[0][2], told[0][4]), (rows, order))
                self.check_nodes(block, top, dict((path, rest) for path, *rest in told), ())

    def check_nodes(self, block, node, told, path):
        _, rows, price, order = told[path]
        if node[0] == "give":
            wanted_order, whole, wanted_rows = slow.judge_top(block, node)
            below, own = [node[1]], block
        else:
            state, wanted_order, whole = slow.judge(block, node)
            wanted_rows = slow.ceiling(block, state, ())
            below = [child for child in node[1:] if isinstance(child, tuple) and child and isinstance(child[0], str)]
            own = block.units[node[1]].source if node[0] == "inner" else block
        self.same((rows, order), (wanted_rows, wanted_order))
        for child in below:
            whole -= (slow.judge_top(own, child)[1] if child[0] == "give" else slow.judge(own, child)[2])
        self.same(price, whole)
        for at, child in enumerate(below):
            self.check_nodes(own, child, told, path + (at,))


if __name__ == "__main__":
    unittest.main()
