"""[32] names of questions."""

import itertools
import unittest

import helper
from leastplans.errors import NoName, TwiceNamed
from leastplans.namings import named
from leastplans.questionreading import read_question
from leastplans.views import make_view

# each place of a question that can be wrong: what stands there, what is wrong there, and its error;
# they stand in the sequence in which they are looked at
PLACES = (
    ("w1", "b.a", "b.z0", NoName("z0")),
    ("w2", "w2", "w1", TwiceNamed("w1")),
    ("w3", "c.a", "z2.a", NoName("z2")),
    ("s1", "t", "z3", NoName("z3")),
    ("s2", "s", "z4", NoName("z4")),
    ("a2", "i", "h", TwiceNamed("h")),
    ("on1", "h.a", "h.z6", NoName("z6")),
    ("sub", "d.b", "d.z7", NoName("z7")),
    ("a3", "j", "i", TwiceNamed("i")),
    ("on2", "j.o", "j.z9", NoName("z9")),
    ("i1", "i.c", "i.z10", NoName("z10")),
    ("i2", "h.b", "z11.b", NoName("z11")),
    ("n2", "o2", "o1", TwiceNamed("o1")),
    ("wh1", "j.o", "z13.o", NoName("z13")),
    ("es", "s", "z14", NoName("z14")),
    ("ea", "l", "k", TwiceNamed("k")),
    ("eo", "l.a", "h.a", NoName("h")),
    ("ew", "h.a", "h.z17", NoName("z17")),
    ("in1", "h.a", "h.z18", NoName("z18")),
    ("in2", "m.a", "h.b", NoName("h")),
    ("wh2", "i.a", "i.z20", NoName("z20")),
    ("g1", "h.a", "h.z21", NoName("z21")),
    ("g2", "i.a", "z22.a", NoName("z22")),
    ("h1", "h.a", "h.z23", NoName("z23")),
    ("ord1", "o1", "z24", NoName("z24")),
    ("ord2", "o2", "z25", NoName("z25")),
)
WHOLE = (
    "with w1 as (select {w1} as p from t b), {w2} as (select {w3} as p from t c) "
    "select {i1} as o1, sum ({i2}) as {n2} from {s1} h join {s2} {a2} on {on1} = 1 "
    "left join (select {sub} as o from t d) {a3} on 1 = {on2} "
    "where {wh1} = 1 and not exists (from t k join {es} {ea} on {eo} = 1 where {ew} = k.a) "
    "and {in1} in (select {in2} as e from t m) and [{wh2} is null or 1 = 1] "
    "group by {g1}, {g2} having {h1} = 1 order by {ord1}, {ord2} desc"
)


def whole(*wrong):
    return WHOLE.format(**{name: bad if name in wrong else good for name, good, bad, _ in PLACES})


class NamingsTest(helper.Case):

    def let(self, text, house=None):
        self.assertIsNone(named(house or helper.shop(), read_question(text)), text)

    def bad(self, error, text, house=None):
        self.refused(error, named, house or helper.shop(), read_question(text))

    def no_name(self, name, *texts):
        for text in texts:
            with self.subTest(text=text):
                self.bad(NoName(name), text)

    def test_arguments(self):
        house, question = helper.shop(), read_question("select t.a from t")
        self.assertIsNone(named(house=house, question=question))
        self.assertEqual(house.names(), ("s", "t"))

    def test_one_wrong(self):
        self.let(whole())
        for name, _, _, error in PLACES:
            with self.subTest(name=name):
                self.bad(error, whole(name))

    def test_two_wrong(self):
        """The one that is looked at first is told."""
        for (name, _, _, error), (later, _, _, _) in itertools.combinations(PLACES, 2):
            with self.subTest(name=name, later=later):
                self.bad(error, whole(name, later))

    def test_all_wrong(self):
        for at in range(len(PLACES)):
            self.bad(PLACES[at][3], whole(*[name for name, _, _, _ in PLACES[at:]]))

    def test_examples(self):
        text = "select t.a from t where exists (from s where s.a = t.a and exists (from t u where u.b = {}))"
        self.bad(NoName("t"), text.format("t.b"))
        self.let(text.format("s.c"))

    def test_aliases_and_columns(self):
        self.let("select u.a from t u")
        self.no_name("t", "select t.a from t u", "select u.a from t u where t.a = 1", "select u.a from t u group by t.a",
                     "select u.a from t u having t.a = 1", "select sum (t.a) as x from t u")
        self.no_name("c", "select t.c from t", "select t.c from t, s", "select count (t.c) as x from t",
                     "select - (1 + t.c) * 2 as x from t", "select t.a from t having max (t.c) = 1")
        self.no_name("z", "select z.y from t", "select u.a from z u", "select t.a from t, z where t.y = 1")
        self.no_name("t", "select t.a from (select t.a from t) u")

    def test_outputs_are_columns(self):
        self.let("select u.x from (select t.a as x from t) u")
        self.no_name("a", "select u.a from (select t.a as x from t) u")
        self.let("with w as (select t.a as x from t) select w.x, v.x as y from w, w v")
        self.no_name("a", "with w as (select t.a as x from t) select w.a from w")
        house = helper.shop()
        make_view(house, "v", "select t.b as y, 1 as one from t")
        self.let("select v.y, u.one from v, v u", house)
        self.bad(NoName("b"), "select v.b from v", house)
        self.bad(NoName("t"), "select t.b from v", house)

    def test_seen_in_on(self):
        self.let("select t.a from t join s on t.a = s.a join t u on u.a = s.a and t.a = 1")
        self.no_name("u", "select t.a from t join s on s.a = u.a join t u on 1 = 1",
                     "select t.a from t left join s on u.a = 1, t u")
        self.let("select t.a from t join s on exists (from t u where u.a = s.a and t.a = 1)")
        self.no_name("v", "select t.a from t join s on exists (from t u where u.a = v.a) join t v on 1 = 1")

    def test_twice_named_aliases(self):
        self.bad(TwiceNamed("t"), "select t.a from t, t")
        self.bad(TwiceNamed("s"), "select t.a from t s, s")
        self.bad(TwiceNamed("u"), "select u.a from t u join s u on u.z = 1")
        self.bad(TwiceNamed("u"), "select t.a from t where exists (from t u, s u)")
        self.bad(TwiceNamed("u"), "select t.a from t u, (select s.a from s) u")
        self.bad(NoName("z"), "select t.a from t u, z u")
        self.bad(NoName("z"), "select t.a from t u, (select s.z from s) u")
        # in other lists an alias may stand again
        self.let("select t.a from t, (select t.a from t) u where exists (from t) and 1 in (select t.a from t)")

    def test_twice_named_outputs(self):
        self.bad(TwiceNamed("a"), "select t.a, t.a from t")
        self.bad(TwiceNamed("a"), "select t.a, t.b as a from t")
        self.bad(TwiceNamed("x"), "select 1 as y, 2 as x, 3 as x, 4 as y from t")
        self.bad(NoName("z"), "select t.a, t.a, t.z from t")
        self.bad(TwiceNamed("a"), "select t.a, t.a from t where t.z = 1")

    def test_orders(self):
        self.let("select t.a as x, t.b from t order by b desc, x, b")
        self.no_name("a", "select t.a as x from t order by x, a, z")
        self.no_name("t", "select t.a from t order by t")

    def test_seen_in_exists(self):
        head = "select t.a from t, s where "
        self.let(head + "exists (from t u where u.a = t.a and s.c = 1)")
        self.let(head + "not exists (from t u where [u.a = t.a or maybe s.c = 1])")
        # its own aliases go ahead of those around
        self.let(head + "exists (from s t where t.c = s.a)")
        self.no_name("b", head + "exists (from s t where t.b = 1)")
        # its on sees none of those around
        self.no_name("s", head + "exists (from t u join t v on s.a = 1 where u.a = 1)")
        self.no_name("t", head + "exists (from t u join t v on u.a = 1 and v.b = t.a)")
        # neither do questions in it
        self.no_name("t", head + "exists (from (select t.a from s) u)")
        self.no_name("s", head + "exists (from t u where u.a in (select s.a from t v))")

    def test_seen_in_an_exists_within_an_exists(self):
        head = "select t.a from t, s where exists (from t u, s x where {})"
        for inner in ("exists (from t v where v.a = u.a and x.c = 1)", "not exists (from t v where u.a = 1)",
                      "[1 = 1 or not [exists (from t v where u.a = 1)]]", "t.a = 1 and exists (from t v where u.a = 1)"):
            self.let(head.format(inner))
        for inner in ("exists (from t v where v.a = t.a)", "not exists (from t v where t.a = 1)",
                      "[1 = 1 or maybe exists (from t v where t.a = 1)]",
                      "exists (from t v where exists (from t w where t.a = 1))"):
            self.no_name("t", head.format(inner))
        self.let(head.format("exists (from t v where exists (from t w where v.a = w.b))"))
        self.no_name("u", head.format("exists (from t v where exists (from t w where u.a = 1))"))
        # behind it the aliases around are seen again
        self.let(head.format("exists (from t v where u.a = 1) and t.a = 1"))
        # an own alias called as one around
        self.let("select t.a from t where exists (from s t where exists (from t u where u.a = t.c))")
        self.no_name("b", "select t.a from t where exists (from s t where exists (from t u where t.b = 1))")

    def test_seen_in_an_in(self):
        head = "select t.a from t, s where "
        self.let(head + "t.a + s.a in (select u.a from t u)")
        self.no_name("t", head + "t.a in (select t.a from s)")
        self.no_name("s", head + "t.a not in (select t.a from t where s.a = 1)")
        self.let(head + "exists (from t u where u.a in (select s.a from s))")
        self.no_name("t", head + "exists (from t u where t.a in (select s.a from s))")
        self.no_name("s", head + "exists (from t u where u.a = t.a and [u.a + s.a not in (select s.a from s) or 1 = 1])")
        self.let(head + "exists (from t u where u.a in (select s.a from s) and t.a = 1)")
        self.no_name("z", head + "z.a in (select y.a from t)", head + "exists (from t u where z.a in (select y.a from x))")

    def test_in_having_and_items(self):
        """What cannot stand there is named all the same."""
        self.let("select t.a from t having exists (from s where s.a = t.a)")
        self.no_name("z", "select t.a from t having exists (from s where s.a = t.z)",
                     "select t.a from t having t.a in (select s.z from s)",
                     "select t.a from t join s on z.a in (select t.a from t)")

    def test_from_left_to_right(self):
        self.no_name("z", "select t.z + t.y as x from t", "select t.a from t where t.z = t.y",
                     "select t.a from t where t.z = 1 and t.y = 1", "select t.a from t where [t.z = 1 or y.a = 1] and t.x = 1",
                     "select t.a from t where exists (from z where y.a = 1)",
                     "select t.a from t where exists (from s where z.a = 1) and t.y = 1",
                     "select t.a from t where not exists (from s, z s)",
                     "select t.a from t where t.z in (select t.y from x)",
                     "select t.a from t where t.a in (select t.a from z) and y.a = 1",
                     "select count (z.a) + y.a as x from t")

    def test_withs(self):
        self.let("with w as (select t.a from t) select w.a from w")
        # an earlier one is seen in a later one, not the other way round, and none in itself
        self.let("with w as (select t.a from t), v as (select w.a from w) select v.a from v")
        self.no_name("v", "with w as (select v.a from v), v as (select t.a from t) select v.a from v",
                     "with v as (select v.a from v) select v.a from v")
        # they are seen in all questions of their question
        self.let("with w as (select t.a from t) select x.a from (select w.a from w) x where 1 in (select w.a from w) "
                 "and exists (from w where w.a in (select w.a from w))")
        self.no_name("w", "select x.a from (with w as (select t.a from t) select w.a from w) x, w")
        self.no_name("w", "with x as (with w as (select t.a from t) select w.a from w) select w.a from w, x")
        # a with that nothing names is looked at, too
        self.no_name("z", "with w as (select t.z from t) select t.a from t")
        self.bad(TwiceNamed("w"), "with w as (select t.a from t), x as (select t.a from t), w as (select z.z from z) "
                                  "select t.a from t")

    def test_withs_ahead_of_the_house(self):
        self.let("with t as (select s.c as x from s) select t.x from t")
        self.no_name("a", "with t as (select s.c as x from s) select t.a from t")
        # in itself, and in those told before, the name means what it means around
        self.let("with t as (select t.b as x from t) select t.x from t")
        self.let("with w as (select t.b from t), t as (select w.b as x from w) select t.x, w.b from t, w")
        self.no_name("b", "with t as (select t.a from t), w as (select t.b from t) select w.b from w")
        # an inner with goes ahead of an outer one
        self.let("with w as (select t.a from t) select x.y from (with w as (select s.c as y from s) select w.y from w) x, w")
        self.let("with w as (select t.a from t) select x.y from "
                 "(with w as (select w.a as y from w) select w.y from w) x")
        self.no_name("a", "with w as (select t.a from t) select x.y from "
                     "(with w as (select w.a as y from w) select w.a as y from w) x")

    def test_a_name_means_what_it_meant_where_it_was_told(self):
        # w was told where t was the table; a later t changes nothing in it
        self.let("with w as (select t.b from t), t as (select s.c as z from s) select w.b, t.z from w, t")
        self.let("with w as (select t.b from t) select x.b from "
                 "(with t as (select s.c as z from s) select w.b, t.z from w, t) x")
        house = helper.shop()
        make_view(house, "v", "select t.b from t")
        self.let("with t as (select s.c as z from s) select v.b, t.z from v, t", house)
        self.bad(NoName("z"), "with t as (select s.c as z from s) select v.z from v, t", house)

    def test_names_of_other_things(self):
        house = helper.shop()
        house.add_index("t", "ix", ("a",))
        self.bad(NoName("ix"), "select ix.a from ix", house)
        self.bad(NoName("u"), "select u.a from t u, u x", house)
        house.drop("t")
        self.bad(NoName("t"), "select t.a from t", house)


if __name__ == "__main__":
    unittest.main()
