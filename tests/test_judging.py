"""[63] [64] Judged plans, and their texts."""

import random
import unittest

import helper
import slow
from leastplans.errors import BadPlan
from leastplans.judging import judged, judged_top
from leastplans.plantexts import plan_text

SUMS = "select t.a, sum (t.b) as x, count (*) as n from t join s on t.a = s.a group by t.a"
T, S = ("scan", 0), ("scan", 1)


class JudgedTest(helper.Case):

    def setUp(self):
        self.house = helper.shop()
        self.block = helper.block(self.house, SUMS)

    def refuse(self, plan, path, word, block=None):
        with self.subTest(plan=plan):
            self.refused(BadPlan(path, word), judged, block or self.block, plan)
            self.refused(BadPlan((0,) + path, word), judged_top, block or self.block, ("give", plan))
            self.refused(BadPlan((0, 0) + path, word), judged_top, block or self.block, ("give", ("sort", plan, (0,)), "sorted"))

    def test_document(self):
        self.same(judged_top(block=self.block, top=("give", ("bag", ("loop", T, S)))), ((), 3004010, 10))
        self.same(judged_top(self.block, ("give", ("bag", ("hash", ("bag", T), ("bag", S))))), ((), 6070, 10))
        self.same(judged_top(self.block, ("give", ("stream", ("loop", ("sort", T, (0,)), S)))), ((0,), 2015010, 10))
        for table in "ts":
            self.house.retell(table, (("rows", 1000), ("dist", "a", 10), ("lies", ("a",))))
        block = helper.block(self.house, SUMS)
        self.same(judged_top(block, ("give", ("stream", ("merge", ("stream", T), ("stream", S))))), ((0,), 4050, 10))

    def test_prices_added(self):
        self.same(judged(block=self.block, plan=T), ((((0,), 0),), (), 1000))
        self.same(judged(self.block, ("bag", T)), ((((0,), 1),), (), 3000))
        self.same(judged(self.block, ("sort", ("bag", T), (0,))), ((((0,), 1),), (0,), 3050))
        self.same(judged(self.block, ("stream", ("sort", T, (0,)))), ((((0,), 1),), (0,), 13000))
        self.same(judged(self.block, ("merge", ("sort", ("bag", T), (0,)), ("sort", ("bag", S), (0,)))),
                  ((((0,), 1), ((1,), 1)), (0,), 3050 + 3050 + 30))

    def test_kind_first(self):
        """The form of the whole goes ahead of what is let."""
        self.refuse(("loop", ("scan", 7), ("scan", True)), (1,), "kind")
        for odd in helper.ODD_VALUES:
            self.refused(BadPlan((), "kind"), judged, self.block, odd)
            self.refused(BadPlan((), "kind"), judged_top, self.block, odd)
            self.refuse(("hash", ("bag", ("bag", T)), odd), (1,), "kind")
        self.refused(BadPlan((), "kind"), judged, self.block, ("give", T))
        self.refused(BadPlan((), "kind"), judged_top, self.block, T)
        self.refused(BadPlan((0, 0), "kind"), judged_top, self.block, ("give", ("bag", ("give", T))))

    def test_children_first(self):
        self.refuse(("bag", ("bag", ("bag", T))), (0,), "twice")
        self.refuse(("loop", ("bag", ("bag", T)), ("scan", 9)), (0,), "twice")
        self.refuse(("loop", ("scan", 9), ("bag", ("bag", T))), (0,), "unit")
        self.refuse(("loop", T, ("loop", S, ("scan", 2))), (1, 1), "unit")
        self.refuse(("loop", T, ("loop", T, S)), (), "overlap")

    def test_words(self):
        """Every word at its node."""
        house = helper.store()
        house.add_index("t", "byb", ("b",))
        house.add_index("s", "bya", ("a",))
        block = helper.block(house, "select t.a from t left join s on s.a = t.a left join p on p.k > s.c "
                                    "where t.b = 3 order by a desc")
        left = ("scan", 1)
        for plan, word in [
            (("scan", 3), "unit"), (("walk", 3, "byb"), "unit"), (("inner", 3, ("give", T)), "unit"), (("walk", 0, "bya"), "index"),
            (("inner", 0, ("give", T)), "source"), (("seek", 0, "byb", 2), "length"), (("seek", 1, "bya", 1), "equal"),
            (("sort", T, (9,)), "target"), (("sort", ("sort", T, (0,)), (0,)), "twice"), (("loop", left, T), "side"),
            (("hash", T, T), "overlap"), (("loop", T, ("scan", 2)), "need"), (("hash", ("loop", T, left), ("scan", 2)), "equal"),
            (("merge", T, left), "order"), (("look", left, 0, "byb", 1), "side"), (("look", T, 3, "byb", 1), "unit"),
            (("look", T, 0, "byb", 1), "overlap"), (("look", T, 1, "byb", 1), "index"), (("look", T, 1, "bya", 0), "length"),
            (("bag", T), "plain"), (("stream", left), "side"),
        ]:
            self.refuse(plan, (), word, block)
        self.refuse(("look", ("bag", T), 1, "bya", 1), (0,), "plain", block)
        self.refuse(("bag", ("bag", T)), (), "twice")
        self.refuse(("stream", T), (), "order")
        for top, word, on in [
            (("give", T), "whole", block), (("give", left, "sorted"), "side", block),
            (("give", ("loop", ("loop", T, left), ("scan", 2))), "unsorted", block), (("give", ("bag", ("loop", T, S)), "sorted"), "plain", self.block),
        ]:
            self.refused(BadPlan((), word), judged_top, on, top)
        house.add_index("p", "byk", ("k",))
        block = helper.block(house, "select t.a from t left join s on s.a = t.a left join p on p.k > s.c")
        self.refuse(("look", T, 2, "byk", 1), (), "need", block)
        self.refuse(("look", ("look", T, 1, "bya", 1), 2, "byk", 1), (), "equal", block)
        block = helper.block(house, "select t.a from t, (select count (*) as n from s) u")
        for plan in (("scan", 1), ("walk", 1, "x"), ("seek", 1, "x", 0), ("look", T, 1, "x", 0)):
            self.refuse(plan, (), "source", block)

    def test_inner(self):
        """An inner step is judged ahead of its top, its top for the block that is the source."""
        text = ("select u.n, u.b from (select t.b, count (*) as n from t group by t.b) u where u.n > 3 order by b")
        block = helper.block(self.house, text)
        bag = ("give", ("bag", T))
        self.same(judged(block, ("inner", 0, bag)), ((((0,), 0),), (), 1000 + 2000 + 1000 + 1000))
        ordered = ("give", ("stream", ("sort", T, (0,))))
        self.same(judged(block, ("inner", 0, ordered)), ((((0,), 0),), (0,), 1000 + 11000 + 1000 + 1000 + 1000))
        self.same(judged_top(block, ("give", ("inner", 0, ordered), "sorted"))[1:], (15000 + 1000, 1000))
        wrong = ("give", ("bag", ("bag", ("scan", 1))))
        self.refuse(("inner", 1, wrong), (), "unit", block)
        self.refuse(("inner", 0, wrong), (0, 0, 0, 0), "unit", block)
        self.refuse(("inner", 0, ("give", T)), (0,), "whole", block)
        self.refuse(("inner", 0, ("give", ("bag", T), "sorted")), (0,), "plain", block)
        self.refuse(("inner", 0, ("give", ("bag", ("bag", T)))), (0, 0), "twice", block)
        other = helper.block(self.house, "select t.a from t where t.a in (select s.a from s)")
        self.refuse(("loop", ("inner", 0, wrong), S), (0,), "source", other)
        self.refuse(("loop", ("inner", 0, ("give", T)), ("inner", 1, wrong)), (0,), "source", other)
        self.refuse(("loop", T, ("inner", 1, wrong)), (1, 0, 0, 0, 0), "unit", other)
        self.same(judged(other, ("hash", T, ("inner", 1, ("give", T))))[1:], ((), 1000 + 3000 + 1000 + 2000 + 1000000))

    def test_beside_slow_ones(self):
        """Plans by chance, let or not, beside a slow judge."""
        chance = random.Random(63)
        words = {}
        for _, block in helper.chance_blocks(631, 250):
            maker = Plans(chance, block)
            for _ in range(20):
                plan = maker.plan()
                for call, other, thing in ((judged, slow.judge, plan), (judged_top, slow.judge_top, maker.top(plan))):
                    try:
                        wanted = other(block, thing)
                        words[thing[0]] = words.get(thing[0], 0) + 1
                    except slow.Refused as refused:
                        words[refused.args[1]] = words.get(refused.args[1], 0) + 1
                        self.refused(BadPlan(*refused.args), call, block, thing)
                        continue
                    self.same(call(block, thing), wanted)
        for word in ("scan walk seek inner sort loop hash merge look bag stream give unit source index length equal "
                     "twice target side overlap need order plain whole unsorted").split():
            self.assertGreater(words.get(word, 0), 3, word)


class Plans:
    """Plans by chance for a block; some of them are let."""

    def __init__(self, chance, block):
        self.chance = chance
        self.block = block

    def number(self, many):
        """Mostly a number that is there."""
        return self.chance.choice((0, many)) if self.chance.random() < 0.03 else self.chance.randrange(many)

    def index(self, u):
        indexed = self.block.units[u].indexed if u < len(self.block.units) else ()
        if indexed and self.chance.random() < 0.95:
            name, places = self.chance.choice(indexed)
            return name, self.chance.choice(range(1, len(places) + 1)) if self.chance.random() < 0.9 else 0
        return "none", 1

    def leaf(self, u):
        if self.chance.random() < 0.04:
            u = len(self.block.units)
        if u < len(self.block.units) and not isinstance(self.block.units[u].source, str):
            if self.chance.random() < 0.95:
                inner = Plans(self.chance, self.block.units[u].source)
                return ("inner", u, inner.top(inner.whole()))
        word = self.chance.choice(("scan", "scan", "walk", "seek", "inner" if self.chance.random() < 0.1 else "scan"))
        if word == "scan":
            return ("scan", u)
        if word == "inner":
            return ("inner", u, ("give", ("scan", 0)))
        name, many = self.index(u)
        return ("walk", u, name) if word == "walk" else ("seek", u, name, many)

    def sorted(self, plan):
        try:
            state, _, _ = slow.judge(self.block, plan)
            orders = slow.wanted(self.block, state)
        except slow.Refused:
            orders = []
        if orders and self.chance.random() < 0.95:
            return ("sort", plan, self.chance.choice(orders))
        return ("sort", plan, self.chance.choice(((), (0,), (1, 0))))

    def squeezed(self, plan):
        return (self.chance.choice(("bag", "stream")), plan)

    def more(self, plan, u):
        if self.chance.random() < 0.3:
            plan = self.sorted(plan)
        if self.chance.random() < 0.4:
            return ("look", plan, u, *self.index(u))
        right = self.leaf(u)
        if self.chance.random() < 0.3:
            right = self.sorted(right)
        if self.block.grouped and self.chance.random() < 0.2:
            right = self.squeezed(right)
        return (self.chance.choice(("loop", "hash", "merge")), plan, right)

    def whole(self):
        """A plan of all units, mostly in a sequence that is let."""
        plan = self.leaf(0)
        for u in range(1, len(self.block.units)):
            if self.block.grouped and self.chance.random() < 0.15:
                plan = self.squeezed(plan)
            plan = self.more(plan, u)
        if self.block.grouped and self.chance.random() < 0.9:
            plan = self.squeezed(self.sorted(plan) if self.chance.random() < 0.4 else plan)
        return self.sorted(plan) if self.block.listed and self.chance.random() < 0.4 else plan

    def plan(self):
        if self.chance.random() < 0.6:
            return self.whole()
        plan = self.leaf(self.number(len(self.block.units)))
        for _ in range(self.chance.randrange(4)):
            make = self.chance.choice((self.sorted, self.squeezed, self.more, self.more))
            plan = make(plan, self.number(len(self.block.units))) if make == self.more else make(plan)
        return plan

    def top(self, plan):
        is_sorted = self.chance.random() < (0.5 if self.block.listed else 0.05)
        return ("give", plan, "sorted") if is_sorted else ("give", plan)


class TextTest(helper.Case):

    def test_document(self):
        self.same(plan_text(top=("give", ("bag", ("loop", T, S)))), "give\n  bag\n    loop\n      scan 0\n      scan 1")

    def test_words(self):
        for plan, text in [
            (("scan", 3), "scan 3"), (("walk", 0, "byday"), "walk 0 byday"), (("seek", 0, "byday", 2), "seek 0 byday 2"),
            (("scan", 10 ** 59), "scan 1" + "0" * 59),
        ]:
            self.same(plan_text(("give", plan)), "give\n  " + text)
            self.same(plan_text(("give", plan, "sorted")), "give sorted\n  " + text)
            for above, words in [
                (("sort", plan, ()), "sort"), (("sort", plan, (3,)), "sort 3"), (("sort", plan, (3, 5, 12)), "sort 3 5 12"),
                (("look", plan, 2, "byday", 1), "look 2 byday 1"), (("bag", plan), "bag"), (("stream", plan), "stream"),
            ]:
                self.same(plan_text(("give", above)), f"give\n  {words}\n    {text}")
            for word in ("loop", "hash", "merge"):
                self.same(plan_text(("give", (word, plan, ("bag", T)))), f"give\n  {word}\n    {text}\n    bag\n      scan 0")

    def test_inner(self):
        top = ("give", ("merge", ("inner", 1, ("give", ("sort", T, (2,)), "sorted")), ("inner", 0, ("give", S))), "sorted")
        self.same(plan_text(top), "\n".join([
            "give sorted", "  merge", "    inner 1", "      give sorted", "        sort 2", "          scan 0",
            "    inner 0", "      give", "        scan 1"]))

    def test_deep(self):
        plan = T
        for _ in range(300):
            plan = ("bag", plan)
        lines = plan_text(("give", plan)).split("\n")
        self.same(len(lines), 302)
        self.same(lines[-1], "  " * 301 + "scan 0")


if __name__ == "__main__":
    unittest.main()
