"""[68] The leaf steps that are let."""

import random
import unittest

import helper
from leastplans.ceilings import Ceilings
from leastplans.leafsteps import leaf_told, why_leaf
from leastplans.leafways import leaf_ways

SUMS = "select t.a, sum (t.b) as x, count (*) as n from t join s on t.a = s.a group by t.a"


class LeafWaysTest(helper.Case):

    def test_document(self):
        sizes = Ceilings(helper.block(helper.shop(), SUMS))
        wanted = ((("scan", 0), (((0,), 0),), (), 1000), (("scan", 1), (((1,), 0),), (), 1000))
        self.same(leaf_ways(sizes=sizes, barred=()), wanted)
        self.same(leaf_ways(sizes, ("walk", "seek", "look", "hash", "merge", "sort", "stream", "early")), wanted)

    def test_sequence(self):
        """Unit by unit: the scan, the walks, the seeks index by index; blocks have none."""
        house = helper.store()
        house.retell("t", (("rows", 8), ("lies", ("x",)), ("fan", ("b",), 3)))
        house.add_index("t", "z", ("b", "x", "a"))
        house.add_index("t", "a", ("x",))
        house.add_index("s", "by", ("a", "y"))
        text = ("select t.a from t, (select p.k from p limit 1) u where t.b = 1 and t.x = 'a' "
                "and not exists (from s where s.a = 2 and s.y = t.x)")
        sizes = Ceilings(helper.block(house, text))
        t, s = (((0,), 0),), ("side", 2)
        # t.a 0, t.b 1, t.x 2; s.y is the last mark
        y = sizes.block.units[2].cols[-1][1]
        walks = ((("walk", 0, "a"), t, (), 16), (("walk", 0, "z"), t, (0,), 16))
        scan = (("scan", 0), t, (), 8)
        seeks = ((("seek", 0, "a", 1), t, (), 4 + 1 + 16), (("seek", 0, "z", 1), t, (0,), 4 + 1 + 6), (("seek", 0, "z", 2), t, (0,), 4 + 1 + 6))
        others = ((("scan", 2), s, (), 100), (("walk", 2, "by"), s, (y,), 200), (("seek", 2, "by", 1), s, (y,), 7 + 1 + 200))
        self.same(leaf_ways(sizes, ()), (scan,) + walks + seeks + others)
        self.same(leaf_ways(sizes, ("walk",)), (scan,) + seeks + others[:1] + others[2:])
        self.same(leaf_ways(sizes, ("seek", "look")), (scan,) + walks + others[:2])
        self.same(leaf_ways(sizes, ("seek", "walk")), (scan,) + others[:1])
        self.same(leaf_ways(sizes, ("early", "sort", "hash", "merge", "stream", "look")), (scan,) + walks + seeks + others)
        sizes = Ceilings(helper.block(house, "select u.k from (select p.k from p limit 1) u"))
        self.same(leaf_ways(sizes, ()), ())

    def test_all_of_them(self):
        """Each step that is let and not barred, with what is told of it, and no other one."""
        chance = random.Random(68)
        seeks = 0
        for _, block in helper.chance_blocks(681, 120):
            sizes = Ceilings(block)
            barred = tuple(word for word in ("walk", "seek", "look", "sort") if chance.random() < 0.2)
            wanted = []
            for u in range(len(block.units) + 2):
                unit = block.units[u] if u < len(block.units) else block.units[0]
                names = [ixname for ixname, _ in unit.indexed] + ["none", ""]
                steps = [("scan", u)] + [("walk", u, name) for name in names]
                steps += [("seek", u, name, many) for name in names for many in range(6)]
                wanted += [(step,) + leaf_told(sizes, step) for step in steps
                           if step[0] not in barred and why_leaf(sizes, step) is None]
            self.same(leaf_ways(sizes, barred), tuple(wanted))
            seeks += any(one[0][0] == "seek" for one in wanted)
        self.assertGreater(seeks, 10)


if __name__ == "__main__":
    unittest.main()
