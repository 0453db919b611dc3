"""[57] Which orders are wanted of plans."""

import unittest

import helper
from leastplans.ceilings import Ceilings
from leastplans.wantings import is_settled, matched, run_of, wanted, way_of

SUMS = "select t.a, sum (t.b) as x, count (*) as n from t join s on t.a = s.a group by t.a"


def as_is(*units):
    return tuple(((u,), 0) for u in units)


class WantedTest(helper.Case):
    """Over helper.store(): t has a, b, x (text); s has a, c, y (text); p has k."""

    def check(self, text, *cases):
        block = helper.block(helper.store(), text)
        for state, orders in cases:
            with self.subTest(text=text, state=state):
                self.same(wanted(sizes=Ceilings(block), state=state), orders)

    def test_document(self):
        sizes = Ceilings(helper.block(helper.shop(), SUMS))
        self.same(wanted(sizes, as_is(0)), ((0,),))
        self.same(way_of(block=sizes.block), ((0,), False))
        self.same(run_of(sizes, (((0, 1), 1),), ()), 10)

    def test_core_units_outside(self):
        # t.a, s.a 0; t.b, p.k 1; s.c 4, fixed, and r.c; t.x is a test's
        self.check(
            "select 1 as d from t, s, p where s.a = t.a and p.k = t.b and t.x < s.y",
            (as_is(0), ((0,), (1,))), (as_is(1), ((0,),)), (as_is(2), ((1,),)), (as_is(0, 1), ((1,),)),
            (as_is(0, 2), ((0,),)), (as_is(1, 2), ((0,), (1,))), (as_is(0, 1, 2), ()))
        # fixed ones are not wanted
        self.check("select 1 as d from t, s where s.a = t.a and t.b = s.c and t.a = 3",
                   (as_is(0), ((1,),)), (as_is(1), ((1,),)))

    def test_attachments_outside(self):
        text = "select t.a from t left join s on t.b = s.a and s.c < t.a and s.c = 4 where exists " \
               "(from s r where r.a = t.a and t.a = r.c and r.c = 7) and t.x not in (select s.y from s)"
        # t.a 0, t.b 1, t.x 2; s.a 3, s.c 4; r.a 5, r.c 6; s.y 7
        self.check(text, (as_is(0), ((0,), (1,))), (as_is(0, 1), ((0,),)), (as_is(0, 2), ((1,),)),
                   (as_is(0, 1, 2, 3), ()),
                   # sides: the second of a pair, not bound
                   (("side", 1), ((3,),)), (("side", 2), ((5,),)), (("side", 3), ()))
        # a fixed first of a pair is not wanted; several, each once
        self.check("select t.a from t left join s on s.a = t.a and s.c = t.a and s.c = t.b and s.a = t.b where t.a = 1",
                   (as_is(0), ((1,),)), (("side", 1), ((2,), (3,))))

    def test_groups(self):
        text = "select t.b, count (*) as n from t, s where t.x = s.y and t.a = 1 and s.c > t.b group by t.b, s.a, t.a"
        # t.a 0, fixed; t.b 1; t.x, s.y 2; s.a 3; s.c 4
        self.check(text, (as_is(0), ((2,), (1, 2))), (as_is(1), ((2,), (2, 3, 4))), ((((0,), 1),), ((2,),)),
                   ((((1,), 1),), ((2,),)), (as_is(0, 1), ((1, 3),)), ((((0,), 1), ((1,), 0)), ((1, 3),)),
                   ((((0, 1), 1),), ()))
        # what came before is left out, and ()
        self.check("select count (*) as n from t, s where t.x = s.y", (as_is(0), ((0,),)), (as_is(0, 1), ()))

    def test_listed(self):
        text = "select t.x, s.c, t.a as d, t.b + 1 as e from t, s where t.a = s.a and t.b > s.c order by d, c, e"
        # t.a, s.a 0; t.b 1; t.x 2; s.c 4
        self.same(way_of(helper.block(helper.store(), text)), ((0, 4), False))
        self.check(text, (as_is(0), ((0,),)), (as_is(1), ((0,), (0, 4))), (as_is(0, 1), ((0, 4),)))
        self.check(text.replace("d, c", "c, d"), (as_is(0), ((0,),)), (as_is(1), ((0,), (4, 0))), (as_is(0, 1), ((4, 0),)))
        # not listed: no way is wanted
        self.check("select t.x from t", (as_is(0), ()))
        self.check("select t.x from t limit 3", (as_is(0), ((0,),)))
        self.check("select t.x from t order by x desc", (as_is(0), ()))
        # sides have no way
        self.check("select s.c from t left join s on s.a = t.a order by c", (("side", 1), ((1,),)), (as_is(0), ((0,),)),
                   (as_is(0, 1), ((2,),)))

    def test_listed_groups(self):
        text = "select t.b, t.a, count (*) as n from t group by t.a, t.b order by b"
        self.check(text, (as_is(0), ((0, 1), (1, 0))), ((((0,), 1),), ((1, 0),)))
        self.check(text.replace("order by b", "order by a, b"), (as_is(0), ((0, 1),)), ((((0,), 1),), ((0, 1),)))


class WayTest(helper.Case):

    def block(self, behind, items="t.a, t.b, t.x"):
        return helper.block(helper.store(), f"select {items} from t {behind}")

    def test_way(self):
        for behind, items, wanted_way in [
            ("", "t.a, t.b, t.x", ((0, 1, 2), True)),
            ("order by x", "t.a, t.b, t.x", ((2, 0, 1), True)),
            ("order by x, a", "t.a, t.b, t.x", ((2, 0, 1), True)),
            ("order by x, a desc", "t.a, t.b, t.x", ((2,), False)),
            ("order by x desc", "t.a, t.b, t.x", ((), False)),
            # met before, also where it goes down
            ("order by x, d desc", "t.a, t.b, t.x, t.x as d", ((2, 0, 1), True)),
            ("order by d, x", "t.x, t.b, t.x as d", ((1, 0), True)),
            # fixed, up or down
            ("where t.b = 4 order by b desc, x", "t.a, t.b, t.x", ((2, 0), True)),
            # other outputs end it, at any place
            ("", "t.a, 1 as d, t.b", ((0,), False)), ("", "t.a, t.b + 0 as d", ((0,), False)),
            ("order by d", "t.a, t.b + 0 as d", ((), False)), ("order by a", "1 as d, t.a", ((0,), False)),
            ("group by t.a", "t.a, count (*) as n", ((0,), False)),
            ("where t.b = 4 group by t.b", "t.b", ((), True)),
            ("", "count (*) as n", ((), False)),
        ]:
            with self.subTest(behind=behind, items=items):
                self.same(way_of(self.block(behind, items)), wanted_way)

    def test_matched(self):
        block = self.block("order by x")
        for order, many in [((), 0), ((2,), 1), ((2, 0), 2), ((2, 1), 1), ((0,), 0), ((2, 0, 1), 3), ((2, 1, 0), 1)]:
            self.same(matched(block=block, order=order), many)
        block = self.block("order by x desc")
        self.same(matched(block, (2, 0)), 0)
        block = self.block("order by x", "t.x, 1 as d, t.a")
        self.same([matched(block, order) for order in ((1, 0), (1,), (0, 1))], [1, 1, 0])

    def settled(self, house, text, *cases):
        block = helper.block(house, text)
        sizes = Ceilings(block)
        for state, order, run, is_so in cases:
            with self.subTest(text=text, order=order):
                self.same(run_of(sizes=sizes, state=state, order=order), run)
                self.same(is_settled(sizes=sizes, state=state, order=order), is_so)

    def test_settled(self):
        house = helper.store()
        house.retell("t", (("rows", 40), ("key", ("a",)), ("fan", ("x",), 5), ("fan", ("b", "x"), 1)))
        one = as_is(0)
        self.settled(house, "select t.a, t.b, t.x from t order by x", (one, (), 40, False), (one, (2,), 5, False),
                     (one, (2, 0), 1, True), (one, (2, 0, 1), 1, True), (one, (2, 1), 5, False), (one, (0,), 40, False))
        # whole: settled, even if many are alike
        self.settled(house, "select t.x from t order by x", (one, (0,), 5, True), (one, (), 40, False))
        self.settled(house, "select t.b, t.x from t order by b", (one, (0,), 40, False), (one, (0, 1), 1, True))
        # not whole: the way ends ahead of the end
        self.settled(house, "select t.x from t order by x desc", (one, (), 40, False), (one, (0,), 40, False))
        self.settled(house, "select t.x, t.b + 1 as d, t.a from t order by x, d", (one, (2, 1), 5, False),
                     (one, (2, 0), 5, False))
        self.settled(house, "select t.a, t.b + 1 as d from t order by a, d", (one, (0,), 1, True), (one, (), 40, False))
        # the wanted order may be empty but for fixed outputs
        self.settled(house, "select t.x from t where t.x = 'a' order by x desc", (one, (), 5, True))
        self.settled(house, "select t.b, t.x from t where t.x = 'a' and t.b = 1 order by x desc, b", (one, (), 1, True))
        # bare blocks
        self.settled(house, "select count (*) as n from t order by n desc", ((((0,), 1),), (), 1, True), (one, (), 1, True))
        house.retell("t", (("rows", 1),))
        self.settled(house, "select t.x from t order by x desc", (one, (), 1, True))
        house.retell("t", (("rows", 0),))
        self.settled(house, "select t.b + 1 as d from t order by d", (one, (), 0, True))

    def test_not_listed(self):
        self.settled(helper.shop(), SUMS, ((((0, 1), 1),), (0,), 1, True), ((((0, 1), 1),), (), 10, False),
                     (as_is(0, 1), (0,), 1000000, False))


if __name__ == "__main__":
    unittest.main()
