"""[60] Steps over one plan."""

import unittest

import helper
from leastplans.ceilings import Ceilings
from leastplans.onesteps import sort_told, squeeze_told, why_sort, why_squeeze


def as_is(*units):
    return tuple(((u,), 0) for u in units)


class Steps(helper.Case):

    def setUp(self):
        self.house = helper.store()
        self.house.retell("t", (("rows", 100), ("fan", ("a",), 6), ("fan", ("a", "b"), 1), ("dist", "b", 7)))
        self.house.retell("s", (("rows", 40), ("fan", ("a",), 5), ("dist", "a", 8)))

    def sizes(self, text):
        return Ceilings(helper.block(self.house, text))


class SortTest(Steps):

    def check(self, sizes, state, order, marks, price):
        with self.subTest(state=state, order=order, marks=marks):
            if isinstance(price, str):
                self.same(why_sort(sizes, (state, order), False, marks), price)
            else:
                self.same(why_sort(sizes=sizes, child=(state, order), is_sorted=False, marks=marks), None)
                self.same(sort_told(sizes=sizes, child=(state, order), marks=marks), (state, marks, price))
            self.same(why_sort(sizes, (state, order), True, marks), "twice")

    def test_document(self):
        sizes = Ceilings(helper.block(helper.shop(), "select t.a, sum (t.b) as x, count (*) as n from t join s "
                                                     "on t.a = s.a group by t.a"))
        self.check(sizes, as_is(0), (), (0,), 11000)
        self.check(sizes, (((0,), 1),), (), (0,), 50)
        # a sort by what it has already costs its rows alone
        self.check(sizes, (((0,), 1),), (0,), (0,), 10)
        self.check(sizes, (((0, 1), 1),), (), (0,), "target")

    def test_marks(self):
        # t.a 0, t.b 1, t.x 2; s.a 3
        sizes = self.sizes("select t.a, t.b, t.x from t, s where s.a = t.b + 1 order by a, b")
        self.check(sizes, as_is(0), (), (0, 1, 2), 100 + 100 * 7)
        self.check(sizes, as_is(0), (2,), (0, 1, 2), 100 + 100 * 7)
        self.check(sizes, as_is(0), (0,), (0, 1, 2), 100 + 100 * 3)
        self.check(sizes, as_is(0), (0, 2), (0, 1, 2), 100 + 100 * 3)
        self.check(sizes, as_is(0), (0, 1), (0, 1, 2), 100)
        self.check(sizes, as_is(0), (0, 1, 2), (0, 1, 2), 100)
        self.check(sizes, as_is(0, 1), (0,), (0, 1, 2), 4000 + 4000 * 8)
        for marks in ((), (0,), (0, 1), (1, 0, 2), (0, 1, 2, 2), (9,)):
            self.check(sizes, as_is(0), (), marks, "target")

    def test_sides(self):
        sizes = self.sizes("select t.a from t left join s on s.a = t.a and s.c = 3")
        self.check(sizes, ("side", 1), (), (1,), 40 + 40 * 6)
        self.check(sizes, ("side", 1), (), (0,), "target")
        self.check(sizes, as_is(0), (), (0,), 100 + 100 * 7)
        self.check(sizes, as_is(0, 1), (), (0,), "target")


class SqueezeTest(Steps):

    def check(self, sizes, state, order, bag, stream):
        for word, wanted in (("bag", bag), ("stream", stream)):
            with self.subTest(state=state, order=order, word=word):
                if isinstance(wanted, str):
                    self.same(why_squeeze(sizes, word, (state, order)), wanted)
                else:
                    self.same(why_squeeze(sizes=sizes, word=word, child=(state, order)), None)
                    self.same(squeeze_told(sizes=sizes, word=word, child=(state, order)), wanted)

    def test_steps(self):
        # t.a 0, t.b 1; t.x, s.y 2
        sizes = self.sizes("select t.a, t.b, sum (s.c) as n from t, s where t.x = s.y group by t.b, t.a")
        squeezed, whole = (((0,), 1),), (((0, 1), 1),)
        self.check(sizes, as_is(0), (), (squeezed, (), 200), "order")
        self.check(sizes, as_is(0), (0, 1), (squeezed, (), 200), "order")
        self.check(sizes, as_is(0), (2, 0, 1), (squeezed, (), 200), (squeezed, (2, 0, 1), 100))
        self.check(sizes, as_is(1), (2,), ((((1,), 1),), (), 80), ((((1,), 1),), (2,), 40))
        self.check(sizes, as_is(0, 1), (2, 0, 1), (whole, (), 8000), "order")
        self.check(sizes, as_is(0, 1), (1, 0, 2), (whole, (), 8000), (whole, (1, 0), 4000))
        self.check(sizes, as_is(0, 1), (0, 1), (whole, (), 8000), (whole, (0, 1), 4000))
        self.check(sizes, as_is(0, 1), (0,), (whole, (), 8000), "order")
        self.check(sizes, (((0,), 1), ((1,), 0)), (1, 0), (whole, (), 8000), (whole, (1, 0), 4000))
        self.check(sizes, (((0,), 1), ((1,), 1)), (), (whole, (), 200), "order")
        self.check(sizes, squeezed, (2, 0, 1), "twice", "twice")
        self.check(sizes, whole, (0, 1), "twice", "twice")

    def test_fixed(self):
        """Fixed marks are asked of no order; without any mark a stream takes any."""
        sizes = self.sizes("select t.a, count (*) as n from t where t.a = 3 and t.x > 'a' group by t.a, t.b")
        self.check(sizes, as_is(0), (1, 2), ((((0,), 1),), (), 12), ((((0,), 1),), (1,), 6))
        self.check(sizes, as_is(0), (2,), ((((0,), 1),), (), 12), "order")
        sizes = self.sizes("select count (*) as n from t where t.x > 'a'")
        self.check(sizes, as_is(0), (), ((((0,), 1),), (), 200), ((((0,), 1),), (), 100))
        self.check(sizes, as_is(0), (0,), ((((0,), 1),), (), 200), ((((0,), 1),), (), 100))

    def test_words(self):
        sizes = self.sizes("select t.a from t left join s on s.a = t.a")
        self.check(sizes, ("side", 1), (), "side", "side")
        self.check(sizes, as_is(0), (), "plain", "plain")
        self.check(sizes, as_is(0, 1), (), "plain", "plain")
        sizes = self.sizes("select t.a, count (*) as n from t left join s on s.a = t.a group by t.a")
        self.check(sizes, ("side", 1), (1,), "side", "side")
        self.check(sizes, (((0,), 1),), (), "twice", "twice")
        self.check(sizes, (((0,), 1), ((1,), 0)), (0,), ((((0, 1), 1),), (), 1000), ((((0, 1), 1),), (0,), 500))


if __name__ == "__main__":
    unittest.main()
