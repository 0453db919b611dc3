"""[69] The steps that are let over children."""

import itertools
import unittest

import drawnplans
import helper
from leastplans.ceilings import Ceilings
from leastplans.joinsteps import join_told, look_told, why_join, why_look
from leastplans.onesteps import sort_told, squeeze_told, why_sort, why_squeeze
from leastplans.states import units_of
from leastplans.stepways import gives_over, over_one, over_two, sorts_over
from leastplans.topsteps import give_told, why_give
from leastplans.wantings import wanted

SUMS = "select t.a, sum (t.b) as x, count (*) as n from t join s on t.a = s.a group by t.a"
WORDS = ("walk", "seek", "look", "hash", "merge", "sort", "stream", "early")


def as_is(*units):
    return tuple(((u,), 0) for u in units)


class StepWaysTest(helper.Case):

    def setUp(self):
        self.sizes = Ceilings(helper.block(helper.shop(), SUMS))

    def words(self, told):
        return tuple(step[0][-1] if step[0][0] == "give" else step[0][0] for step in told)

    def test_document(self):
        child = (as_is(0), ())
        self.same(over_one(sizes=self.sizes, child=child, barred=()), ((("bag",), (((0,), 1),), (), 2000),))
        self.same(sorts_over(sizes=self.sizes, child=child, barred=()), ((("sort", (0,)), as_is(0), (0,), 11000),))
        left, right = ((((0,), 1),), ()), ((((1,), 1),), ())
        both = (((0,), 1), ((1,), 1))
        self.same(over_two(sizes=self.sizes, left=left, right=right, barred=()),
                  ((("loop",), both, (), 120), (("hash",), both, (), 40)))
        self.same(gives_over(sizes=self.sizes, child=((((0, 1), 1),), ())), ((("give",), (), 10),))
        self.same(gives_over(self.sizes, child), ())

    def test_barred(self):
        """Each barred word by itself."""
        house = helper.shop()
        house.add_index("s", "bya", ("a",))
        sizes = Ceilings(helper.block(house, SUMS))
        child = (as_is(0), (0,))
        for word in ("",) + WORDS:
            barred = (word,) if word else ()
            with self.subTest(word=word):
                let = {"": ("look", "bag", "stream"), "look": ("bag", "stream"), "stream": ("look", "bag"), "early": ("look",)}
                self.same(self.words(over_one(sizes, child, barred)), let.get(word, let[""]))
                let = {"": ("loop", "hash", "merge"), "hash": ("loop", "merge"), "merge": ("loop", "hash")}
                self.same(self.words(over_two(sizes, child, (as_is(1), (0,)), barred)), let.get(word, let[""]))
                self.same(self.words(sorts_over(sizes, child, barred)), () if word == "sort" else ("sort",))
        self.same(self.words(over_one(sizes, child, ("look", "stream"))), ("bag",))
        self.same(self.words(over_two(sizes, child, (as_is(1), (0,)), ("merge", "hash"))), ("loop",))

    def test_early(self):
        """It bars squeezes of less than all units of the block in which they stand, whatever is around."""
        whole = (as_is(0, 1), (0,))
        self.same(self.words(over_one(self.sizes, whole, ("early",))), ("bag", "stream"))
        self.same(self.words(over_one(self.sizes, ((((0,), 1), ((1,), 1)), ()), ("early",))), ("bag",))
        self.same(over_one(self.sizes, (as_is(1), (0,)), ("early",)), ())
        text = "select u.n, p.k from (select t.a, count (*) as n from t group by t.a) u, p"
        inner = Ceilings(helper.block(helper.store(), text).units[0].source)
        self.same(self.words(over_one(inner, (as_is(0), (0,)), ("early",))), ("bag", "stream"))

    def test_looks(self):
        """By u, then in the sequence of indexed, then by k."""
        house = helper.store()
        for table, ixname, cols in (("s", "z", ("a", "c")), ("s", "b", ("c",)), ("p", "k", ("k",)), ("t", "a", ("a",))):
            house.add_index(table, ixname, cols)
        text = "select t.a from p, t left join s on s.a = t.a and s.c = t.b where p.k = t.a"
        sizes = Ceilings(helper.block(house, text))
        told = over_one(sizes, (as_is(1), ()), ())
        self.same([one[0] for one in told], [("look", 0, "k", 1), ("look", 2, "b", 1), ("look", 2, "z", 1), ("look", 2, "z", 2)])
        for step, *rest in told:
            self.same(tuple(rest), look_told(sizes, (as_is(1), ()), *step[1:]))
        self.same(over_one(sizes, (("side", 2), ()), ()), ())
        self.same(over_one(sizes, (as_is(0), ()), ()), ((("look", 1, "a", 1), as_is(0, 1), (), 100 + 100 * 208),))

    def test_sides(self):
        sizes = Ceilings(helper.block(helper.store(), "select t.x from t left join s on s.a = t.a and s.c = t.b"))
        side = ("side", 1)
        self.same([one[0] for one in sorts_over(sizes, (side, ()), ())], [("sort", (3,)), ("sort", (4,))])
        self.same(self.words(over_two(sizes, (as_is(0), (1,)), (side, (4,)), ())), ("loop", "hash", "merge"))
        self.same(self.words(over_two(sizes, (as_is(0), (1,)), (side, (3,)), ())), ("loop", "hash"))
        self.same(over_two(sizes, (side, ()), (as_is(0), ()), ()), ())
        self.same(gives_over(sizes, (side, ())), ())

    def test_gives(self):
        house = helper.store()
        for text, state, order, let in [
            ("select t.a from t", as_is(0), (), ("give",)), ("select t.a from t order by a", as_is(0), (), ("sorted",)),
            ("select t.a from t order by a", as_is(0), (0,), ("give", "sorted")), ("select t.a from t limit 2", as_is(0), (), ("sorted",)),
            ("select count (*) as n from t order by n", (((0,), 1),), (), ("give", "sorted")),
            ("select count (*) as n from t", (((0,), 1),), (), ("give",)), ("select count (*) as n from t", as_is(0), (), ()),
        ]:
            sizes = Ceilings(helper.block(house, text))
            told = gives_over(sizes, (state, order))
            self.same(self.words(told), let)
            for step, *rest in told:
                self.same(tuple(rest), give_told(sizes, step[-1], (state, order))[:2])

    def test_all_of_them(self):
        """Over states and orders by chance: each step that is let and not barred, and no other one."""
        many = {}
        for chance, _, block in drawnplans.told_houses(691, 1, (0,)):
            sizes = Ceilings(block)
            barred = tuple(word for word in WORDS if chance.random() < 0.1)
            children = sorted({(state, order) for _, state, order in drawnplans.Drawn(chance, block, 25).pool}, key=str)
            for child in children:
                for told, let in ((over_one(sizes, child, barred), self.slow_over_one(sizes, child, barred)),
                                  (sorts_over(sizes, child, barred), self.slow_sorts(sizes, child, barred)),
                                  (gives_over(sizes, child), self.slow_gives(sizes, child))):
                    self.same(told, tuple(let))
                    for one in told:
                        many[one[0][0]] = many.get(one[0][0], 0) + 1
            for left, right in itertools.product(children, repeat=2):
                let = [((word,),) + join_told(sizes, word, left, right) for word in ("loop", "hash", "merge")
                       if word not in barred and why_join(sizes, word, left, right) is None]
                self.same(over_two(sizes, left, right, barred), tuple(let))
                for one in let:
                    many[one[0][0]] = many.get(one[0][0], 0) + 1
        for word in ("look", "bag", "stream", "sort", "give", "loop", "hash", "merge"):
            self.assertGreater(many[word], 10, word)

    def slow_over_one(self, sizes, child, barred):
        units = sizes.block.units
        for u in range(len(units) + 1):
            names = [ixname for ixname, _ in units[u].indexed] if u < len(units) else ["ix0"]
            for ixname, many in itertools.product(names + ["none"], range(5)):
                if "look" not in barred and why_look(sizes, child, u, ixname, many) is None:
                    yield (("look", u, ixname, many),) + look_told(sizes, child, u, ixname, many)
        is_early = len(units_of(child[0])) < len(units) and "early" in barred
        for word in ("bag", "stream"):
            if word not in barred and not is_early and why_squeeze(sizes, word, child) is None:
                yield ((word,),) + squeeze_told(sizes, word, child)

    def slow_sorts(self, sizes, child, barred):
        for marks in wanted(sizes, child[0]):
            self.same(why_sort(sizes, child, False, marks), None)
            if "sort" not in barred:
                yield (("sort", marks),) + sort_told(sizes, child, marks)

    def slow_gives(self, sizes, child):
        for step in (("give",), ("give", "sorted")):
            if why_give(sizes, step[-1], child) is None:
                yield (step,) + give_told(sizes, step[-1], child)[:2]


if __name__ == "__main__":
    unittest.main()
