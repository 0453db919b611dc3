"""[88] [89] Plans explained."""

import random
import unittest

import drawnplans
import helper
from leastplans.blocks import block_of
from leastplans.explaining import explained
from leastplans.houses import House
from leastplans.judging import judged_top
from leastplans.plantexts import plan_text
from leastplans.questionreading import read_question
from leastplans.stepceilings import step_ceilings

SUMS = "select t.a, sum (t.b) as x, count (*) as n from t join s on t.a = s.a group by t.a"
T, S = ("scan", 0), ("scan", 1)


class ExplainedTest(helper.Case):

    def test_document(self):
        house = House()
        house.add_table("t", (("a", "number", False), ("b", "number", True)), (("rows", 4), ("lies", ("a",))))
        block = block_of(house, read_question("select t.b, t.a from t"))
        wanted = "give : rows 4, steps 4, order 1\n  scan 0 : rows 4, steps 4, order 0\nprice 8"
        self.same(explained(block, ("give", T)), wanted)
        self.same(explained(block=block, top=("give", T)), wanted)

    def test_lines(self):
        block = helper.block(helper.shop(), SUMS)
        self.same(explained(block, ("give", ("bag", ("hash", ("bag", T), ("bag", S))))), "\n".join([
            "give : rows 10, steps 10, order none", "  bag : rows 10, steps 20, order none", "    hash : rows 10, steps 40, order none",
            "      bag : rows 10, steps 2000, order none", "        scan 0 : rows 1000, steps 1000, order none",
            "      bag : rows 10, steps 2000, order none", "        scan 1 : rows 1000, steps 1000, order none", "price 6070"]))

    def test_orders(self):
        """None, one, several; places of outputs for gives, marks for steps."""
        house = helper.shop()
        house.add_index("t", "bya", ("a",))
        block = helper.block(house, "select t.b, t.a, t.a as c from t order by a, b")
        self.same(explained(block, ("give", ("sort", ("walk", 0, "bya"), (0, 1)))), "\n".join([
            "give : rows 1000, steps 1000, order 1 0", "  sort 0 1 : rows 1000, steps 11000, order 0 1",
            "    walk 0 bya : rows 1000, steps 2000, order 0", "price 14000"]))
        self.same(explained(block, ("give", T, "sorted")), "\n".join([
            "give sorted : rows 1000, steps 11000, order 1 0 2", "  scan 0 : rows 1000, steps 1000, order none", "price 12000"]))

    def test_inner(self):
        """Beneath an inner step marks and outputs are those of the inner block."""
        text = "select u.n, u.b from (select t.b, count (*) as n from t group by t.b limit 5) u"
        block = helper.block(helper.shop(), text)
        top = ("give", ("inner", 0, ("give", ("stream", ("sort", T, (0,))), "sorted")))
        self.same(explained(block, top), "\n".join([
            "give : rows 5, steps 5, order 1 0", "  inner 0 : rows 5, steps 5, order 0 1", "    give sorted : rows 5, steps 1000, order 0 1",
            "      stream : rows 1000, steps 1000, order 0", "        sort 0 : rows 1000, steps 11000, order 0",
            "          scan 0 : rows 1000, steps 1000, order none", "price 14010"]))

    def test_chance(self):
        """The lines beside step_ceilings and plan_text."""
        chance = random.Random(88)
        for _, block in helper.chance_blocks(881, 40):
            for top, _ in drawnplans.Drawn(chance, block, 10).tops[-4:]:
                lines = explained(block, top).split("\n")
                self.same(lines[-1], f"price {judged_top(block, top)[1]}")
                self.same("\n".join(line.split(" : ")[0] for line in lines[:-1]), plan_text(top))
                wanted = [f" : rows {rows}, steps {steps}, order " + (" ".join(map(str, order)) if order else "none")
                          for _, _, rows, steps, order in step_ceilings(block, top)]
                self.same([line[line.index(" : "):] for line in lines[:-1]], wanted)


if __name__ == "__main__":
    unittest.main()
