"""[61] The last step."""

import unittest

import helper
from leastplans.ceilings import Ceilings
from leastplans.topsteps import give_told, why_give


def as_is(*units):
    return tuple(((u,), 0) for u in units)


class GiveTest(helper.Case):

    def setUp(self):
        self.house = helper.store()
        self.house.retell("t", (("rows", 100), ("fan", ("x",), 6), ("key", ("a",)), ("dist", "b", 20)))

    def check(self, text, *cases):
        """Each case is a child, and what is told of give and of sorted: a word, or the told triple."""
        sizes = Ceilings(helper.block(self.house, text))
        for state, order, give, ordered in cases:
            for word, wanted in (("give", give), ("sorted", ordered)):
                with self.subTest(text=text, state=state, order=order, word=word):
                    child = (state, order)
                    if isinstance(wanted, str):
                        self.same(why_give(sizes, word, child), wanted)
                    else:
                        self.same(why_give(sizes=sizes, word=word, child=child), None)
                        self.same(give_told(sizes=sizes, word=word, child=child), wanted)

    def test_not_listed(self):
        self.check(
            "select t.x, t.a, t.b + 1 as d, t.x as e, 4 as f from t where t.b > 0",
            (as_is(0), (), ((), 100, 100), "plain"), (as_is(0), (2, 0), ((0, 1), 100, 100), "plain"),
            (as_is(0), (0, 1, 2), ((1,), 100, 100), "plain"), (as_is(0), (1, 0), ((), 100, 100), "plain"))

    def test_listed(self):
        text = "select t.a, t.b, t.x from t order by x"
        self.check(
            text, (as_is(0), (), "unsorted", ((2, 0, 1), 100 + 100 * 7, 100)),
            (as_is(0), (2,), "unsorted", ((2, 0, 1), 100 + 100 * 3, 100)),
            (as_is(0), (2, 1), "unsorted", ((2, 0, 1), 100 + 100 * 3, 100)),
            (as_is(0), (2, 0), ((2, 0), 100, 100), ((2, 0, 1), 100, 100)),
            (as_is(0), (2, 0, 1), ((2, 0, 1), 100, 100), ((2, 0, 1), 100, 100)))
        self.check(text + " limit 3", (as_is(0), (2, 0), ((2, 0), 100, 3), ((2, 0, 1), 100, 3)))
        self.check(text + " limit 300", (as_is(0), (2, 0), ((2, 0), 100, 100), ((2, 0, 1), 100, 100)))
        self.check(text + " limit 0", (as_is(0), (), "unsorted", ((2, 0, 1), 800, 0)))

    def test_outputs(self):
        """The order of a sorted give: up to the first member that goes down, each output once."""
        text = "select t.a, t.x, t.a as d, t.b + 1 as e from t order by {}"
        for orders, outputs in [
            ("a", (0, 1, 2, 3)), ("d", (2, 0, 1, 3)), ("e, x", (3, 1, 0, 2)), ("x, a desc", (1,)), ("x desc", ()),
            # met before, and still it ends there
            ("a, d desc", (0,)), ("a, x, d desc", (0, 1)), ("e, a", (3, 0, 1, 2)), ("a, a desc", (0,)),
        ]:
            sizes = Ceilings(helper.block(self.house, text.format(orders)))
            self.same(give_told(sizes, "sorted", (as_is(0), ()))[0], outputs)
        # the order of a plain give: the least outputs, also where a told order goes down
        sizes = Ceilings(helper.block(self.house, text.format("x desc")))
        self.same(give_told(sizes, "give", (as_is(0), (0, 2, 1)))[0], (0, 1))
        # the order of the child may end ahead: t.b is no output just as it is
        sizes = Ceilings(helper.block(self.house, "select t.a, t.x from t where t.b > 1"))
        self.same(give_told(sizes, "give", (as_is(0), (2, 1, 0)))[0], (1,))

    def test_groups(self):
        text = "select t.b, count (*) as n from t, s where t.a < s.a group by t.b"
        whole = (((0, 1), 1),)
        self.check(
            text, (whole, (), ((), 20, 20), "plain"), (as_is(0, 1), (), "whole", "whole"),
            ((((0,), 1), ((1,), 1)), (), "whole", "whole"), ((((0,), 1),), (), "whole", "whole"))
        self.check(
            text + " order by n limit 8", (whole, (), "unsorted", ((1, 0), 20 + 20 * 5, 8)),
            (whole, (1,), "unsorted", ((1, 0), 20 + 20 * 5, 8)))
        self.check(text + " order by b limit 8", (whole, (1,), ((0,), 20, 8), ((0, 1), 20, 8)))

    def test_bare(self):
        text = "select count (*) as n from t"
        whole = (((0,), 1),)
        self.check(text, (whole, (), ((), 1, 1), "plain"), (as_is(0), (), "whole", "whole"))
        self.check(text + " order by n desc", (whole, (), ((), 1, 1), ((), 1, 1)))
        self.check(text + " limit 0", (whole, (), ((), 1, 0), ((0,), 1, 0)))
        self.check(text + " limit 5", (whole, (), ((), 1, 1), ((0,), 1, 1)))
        self.house.retell("t", (("rows", 0),))
        # a bare block gives a row, even if its state has none
        self.check(text, (whole, (), ((), 0, 1), "plain"))
        self.check(text + " limit 3", (whole, (), ((), 0, 1), ((0,), 0, 1)))
        self.check("select t.a from t", (as_is(0), (), ((), 0, 0), "plain"))

    def test_words(self):
        text = "select t.a from t left join s on s.a = t.b order by a desc"
        self.check(
            text, (("side", 1), (), "side", "side"), (as_is(0), (), "whole", "whole"),
            (as_is(0, 1), (), "unsorted", ((), 10000 + 10000 * 14, 10000)))
        self.check(text.replace(" order by a desc", ""), (("side", 1), (), "side", "side"), (as_is(0), (), "whole", "whole"),
                   (as_is(0, 1), (), ((), 10000, 10000), "plain"))


if __name__ == "__main__":
    unittest.main()
