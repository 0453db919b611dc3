"""[37] [38] making views."""

import unittest

import helper
from leastplans.errors import BadKind, BadPlace, BadText, InUse, NoName, TooMuch, TwiceNamed
from leastplans.questionreading import read_question
from leastplans.views import make_view


class ViewsTest(helper.Case):

    def test_make_view(self):
        house = helper.shop()
        text = "with w as (select s.c from s) select t.a from t where t.b in (select w.c from w)"
        self.assertIsNone(make_view(house=house, name="v", text=text))
        self.same((house.kind_of("v"), house.edition("v")), ("view", 3))
        self.same(house.question_of("v"), read_question(text))
        self.same(house.uses_of("v"), ("s", "t"))
        make_view(house, "r", "select v.a from v")
        self.same((house.uses_of("r"), house.edition("r")), (("v",), 4))
        self.refused(InUse("v"), house.drop, "v")
        self.refused(InUse("s"), house.drop, "s")
        house.drop("r")
        house.drop("v")
        house.drop("s")
        self.same(house.names(), ("t",))

    def bad(self, error, name, text):
        house = helper.shop()
        make_view(house, "v", "select t.a from t")
        before = [(one, house.kind_of(one), house.edition(one)) for one in house.names()]
        self.refused(error, make_view, house, name, text)
        self.same([(one, house.kind_of(one), house.edition(one)) for one in house.names()], before)
        # no number was given
        make_view(house, "next_one", "select t.a from t")
        self.same(house.edition("next_one"), 4)

    def test_refused(self):
        self.every((
            (BadText(0), "w", ""), (BadText(13), "w", "select (t.a) from t"), (TooMuch("signs"), "w", "+" * 41),
            (TooMuch("depth"), "w", "select " + "(" * 21), (TwiceNamed("t"), "t", "select t.a from t"),
            (TwiceNamed("v"), "v", "select t.a from t"), (NoName("z"), "w", "select z.a from z"),
            (NoName("w"), "w", "select w.a from w"), (TwiceNamed("a"), "w", "select t.a, t.a from t"),
            (BadKind("where"), "w", "select t.a from t where t.a = 'a'"),
            (BadPlace("agg"), "w", "select t.a from t where sum (t.a) = 1"),
        ), self.bad)

    def test_refused_in_sequence(self):
        self.every((
            (BadText(5), "t", "with 7"), (BadText(9), "v", "select z.7 from z"),
            (TwiceNamed("v"), "v", "select z.a from z"), (TwiceNamed("t"), "t", "select t.a from t where sum (t.a) = 'a'"),
            (NoName("z"), "w", "select t.a from t where sum (t.a) = 'a' order by z"),
            (BadKind("where"), "w", "select t.b from t where sum (t.a) = 'a' group by t.a"),
        ), self.bad)


if __name__ == "__main__":
    unittest.main()
