"""[40] [44] From a question to its raw block."""

import random
import unittest

import helper
from helper import col, over, raw
from leastplans.columnsin import columns_in
from leastplans.errors import TooMuch
from leastplans.putting import put_in
from leastplans.questionreading import read_question
from leastplans.raising import raw_of
from leastplans.raws import RawBlock, RawUnit

T, S, P = ("table", "t"), ("table", "s"), ("table", "p")


class RaisingTest(helper.Case):
    """Over helper.store(): t has a, b, x (text); s has a, c, y (text); p has k; v has a, w (text)."""

    def raw(self, text, outermost=True):
        return raw(helper.store(), text, outermost)

    def units(self, found, *told):
        """Each unit is told as (kind, source, conds), a source that is a block as None."""
        self.assertIsInstance(found, RawBlock)
        self.same([(one.kind, one.source if isinstance(one.source, tuple) else None, one.conds)
                   for one in found.units], list(told))

    def test_document(self):
        found = self.raw("select t.b from t where t.b not in (select s.c from s)")
        self.units(found, ("core", T, ()), ("anti", None, (("maybe", over("u0.c1 = u1.c0")),)))
        self.same(found.tests, ())

    def test_every_field(self):
        house = helper.store()
        question = put_in(house, read_question(
            "select t.a, s.c + 1 as d, 'q' as e from t, s where t.b = 1 and t.a = s.a "
            "order by e desc, a limit 6"))
        before = helper.kinds(question)
        found = raw_of(house=house, question=question, outermost=True)
        self.same(helper.kinds(question), before)
        self.units(found, ("core", T, ()), ("core", S, ()))
        self.same({field: vars(found)[field] for field in vars(found) if field != "units"}, {
            "tests": (over("u0.c1 = 1"), over("u0.c0 = u1.c0")), "grouped": False, "groups": (),
            "aggs": (), "having": (),
            "outs": (col(0, 0), ("add", col(1, 1), ("num", 1)), ("text", "q")),
            "outnames": ("a", "d", "e"), "outkinds": ("number", "number", "text"),
            "orders": ((2, "desc"), (0, "asc")), "limit": 6, "listed": True, "distinct": False})
        self.assertIsNot(raw_of(house, question, True), found)

    def test_sources(self):
        found = self.raw(
            "select t.a from t join s on t.a = s.a and s.c > 1, p left join s r on r.a = t.a and r.c = 1 "
            "join p q on q.k = r.c where t.b = 2")
        # r.c meets a test that is never true on nulls: r is core
        self.units(found, *[("core", source, ()) for source in (T, S, P, S, P)])
        self.same(found.tests, (
            over("u0.c0 = u1.c0"), over("u1.c1 > 1"), over("u4.c0 = u3.c1"), over("u0.c1 = 2"),
            over("u3.c0 = u0.c0"), over("u3.c1 = 1")))
        found = self.raw("select t.a from t left join s on t.a = s.a and [s.c = 1 or t.b = 1] left join p on 1 = 2")
        self.units(found, ("core", T, ()), ("left", S, (over("u0.c0 = u1.c0"), over("u1.c1 = 1 or u0.c1 = 1"))),
                   ("left", P, (over("1 = 2"),)))
        self.same(found.tests, ())

    def test_inner_blocks(self):
        found = self.raw("select u.m from (select t.a, count (*) as m from t group by t.a) u, v where u.a = v.a")
        self.units(found, ("core", None, ()), ("core", T, ()))
        self.same(found.tests, (over("u0.c0 = u1.c0"), over("u1.c1 > 0")))
        self.same(found.outs, (col(0, 1),))
        self.same(found.outkinds, ("number",))
        inner = found.units[0].source
        self.same((inner.grouped, inner.groups, inner.aggs), (True, (col(0, 0),), (("count", None, None),)))
        # left: what its question does stays within
        found = self.raw("select v.w, t.a from t left join v on v.a = t.b")
        self.units(found, ("core", T, ()), ("left", None, (over("u1.c0 = u0.c1"),)))
        self.same(found.outkinds, ("text", "number"))
        self.same(found.units[1].source.outs, (col(0, 0), col(0, 2)))
        self.same(found.units[1].source.outnames, ("a", "w"))

    def test_listed(self):
        text = "select t.a, t.b from t"
        cases = [
            ("", True, False, (), None), ("", False, False, (), None),
            (" order by b", True, True, ((1, "asc"),), None), (" order by b", False, False, (), None),
            (" limit 0", True, True, (), 0), (" limit 3", False, True, (), 3),
            (" order by b desc, a limit 2", True, True, ((1, "desc"), (0, "asc")), 2),
            (" order by b desc limit 2", False, True, ((1, "desc"),), 2),
        ]
        for behind, outermost, listed, orders, limit in cases:
            with self.subTest(behind=behind, outermost=outermost):
                found = self.raw(text + behind, outermost)
                self.same((found.listed, found.orders, found.limit), (listed, orders, limit))
        found = self.raw("select u.a from (select t.a from t order by a) u, (select t.a from t limit 4) w")
        self.units(found, ("core", T, ()), ("core", None, ()))
        self.same((found.units[1].source.listed, found.listed), (True, False))
        for text in ("select t.a from t where t.a in (select s.c from s order by c)",
                     "select t.a from t, (select s.c, count (*) as n from s group by s.c order by n) u order by a",
                     "select t.a from t left join (select s.c from s order by c) u on u.c = t.a limit 2"):
            found = self.raw(text)
            self.same((found.units[1].source.listed, found.units[1].source.orders), (False, ()))

    def test_in(self):
        found = self.raw(
            "select t.a from t where t.b = 1 and t.a + 1 in (select s.c * 2 as d from s) "
            "and not 'z' in (select t.x from t) and t.b not in (select p.k from p)")
        self.units(found, ("core", T, ()), ("semi", None, (over("u0.c0 + 1 = u1.c0"),)),
                   ("anti", None, (("maybe", over("'z' = u2.c0")),)),
                   ("anti", None, (("maybe", over("u0.c1 = u3.c0")),)))
        self.same(found.tests, (over("u0.c1 = 1"),))
        self.same(found.units[1].source.outs, (("mul", col(0, 1), ("num", 2)),))
        # an in or exists deeper than under one not is in no question that is let; or and not not stay
        self.same(self.raw("select t.a from t where not not t.a = 1 or t.b = 1").tests,
                  (over("not not u0.c0 = 1 or u0.c1 = 1"),))

    def test_exists_of_a_table(self):
        found = self.raw(
            "select t.a from t, p where exists (from s where s.a = t.a and s.c = 1 and p.k = 2 and 1 = 2) "
            "and not exists (from s) and exists (from t where t.a = p.k)")
        self.units(
            found, ("core", T, ()), ("core", P, ()),
            ("semi", S, (over("u2.c0 = u0.c0"), over("u2.c1 = 1"), over("u1.c0 = 2"), over("1 = 2"))),
            ("anti", S, ()),
            # the inner t hides the outer one
            ("semi", T, (over("u4.c0 = u1.c0"),)))

    def test_exists_of_several(self):
        found = self.raw(
            "select t.a from t where not exists (from s r, p join s on s.a = p.k "
            "where s.y = 'e' and r.c = t.b and s.a + r.a < t.a and s.y = t.x and 1 = 1 and t.b = 4 and p.k = r.c)")
        self.units(found, ("core", T, ()), ("anti", None, (
            over("u1.c1 = u0.c1"), over("u1.c2 + u1.c0 < u0.c0"), over("u1.c3 = u0.c2"), over("u0.c1 = 4"))))
        inner = found.units[1].source
        self.units(inner, ("core", S, ()), ("core", P, ()), ("core", S, ()))
        self.same(inner.tests, (over("u2.c0 = u1.c0"), over("u2.c2 = 'e'"), over("1 = 1"), over("u1.c0 = u0.c1")))
        # the columns by unit, then place, whatever came first
        self.same(inner.outs, (col(0, 0), col(0, 1), col(2, 0), col(2, 2)))
        self.same(inner.outnames, ("a", "c", "a", "y"))
        self.same(inner.outkinds, ("number", "number", "number", "text"))
        self.same((inner.grouped, inner.distinct, inner.listed, inner.orders, inner.limit, inner.groups),
                  (False, False, False, (), None, ()))

    def test_exists_without_outer(self):
        found = self.raw("select t.a from t where exists (from s, p where s.a = p.k)")
        self.units(found, ("core", T, ()), ("semi", None, ()))
        self.same(found.units[1].source.outs, ())
        self.same(found.units[1].source.outkinds, ())

    def test_exists_of_a_question(self):
        found = self.raw("select t.a from t where exists (from v where v.w = t.x and v.a = 1)")
        self.units(found, ("core", T, ()), ("semi", None, (over("u1.c0 = u0.c2"),)))
        inner = found.units[1].source
        # v is merged into the block of the exists
        self.units(inner, ("core", T, ()))
        self.same(inner.tests, (over("u0.c0 = 1"), over("u0.c1 > 0")))
        self.same(inner.outs, (col(0, 2),))

    def test_exists_with_units(self):
        """A member that becomes a unit is within, even over one table."""
        found = self.raw(
            "select t.a from t where exists (from s where s.c = t.b and s.a = 5 and "
            "not exists (from p where p.k = s.a) and s.c in (select p.k from p))")
        self.units(found, ("core", T, ()), ("semi", None, (over("u1.c0 = u0.c1"),)))
        inner = found.units[1].source
        self.units(inner, ("core", S, ()), ("anti", P, (over("u1.c0 = u0.c0"),)),
                   ("semi", None, (over("u0.c1 = u2.c0"),)))
        self.same(inner.tests, (over("u0.c0 = 5"),))
        self.same(inner.outnames, ("c",))

    def test_groups(self):
        found = self.raw(
            "select t.b, sum (t.a) as m, count (*) as n, sum (t.a) + max (t.b) - t.b as o from t "
            "group by t.b, t.a, t.b having count (t.x) > 1 and t.a = 3 and sum (t.a) < count (*)")
        self.same(found.grouped, True)
        self.same(found.groups, (col(0, 1), col(0, 0)))
        self.same(found.aggs, (("sum", 0, 0), ("count", None, None), ("max", 0, 1), ("count", 0, 2)))
        self.same(found.outs, (
            col(0, 1), ("agg", 0), ("agg", 1), ("sub", ("add", ("agg", 0), ("agg", 2)), col(0, 1))))
        self.same(found.having, (
            ("cmp", ">", ("agg", 3), ("num", 1)), ("cmp", "<", ("agg", 0), ("agg", 1))))
        # what having tells of rows is a test
        self.same(found.tests, (over("u0.c0 = 3"),))
        self.same(found.outkinds, ("number",) * 4)

    def test_bare(self):
        for text, bare, grouped in [
            ("select count (*) as n from t", True, True),
            ("select 1 as n from t having 1 = 1", True, True),
            ("select t.a from t group by t.a", False, True),
            ("select t.a from t", False, False),
        ]:
            found = self.raw(text)
            self.same((found.bare(), found.grouped), (bare, grouped))
        self.same(self.raw("select 1 as n from t having 1 = 1 and 2 = 2").having, (over("1 = 1"), over("2 = 2")))

    def test_distinct(self):
        found = self.raw("select distinct t.b, t.a, t.b as d from t order by d limit 2")
        self.same((found.grouped, found.groups, found.distinct), (True, (col(0, 1), col(0, 0)), False))
        self.same((found.orders, found.limit), (((2, "asc"),), 2))
        found = self.raw("select distinct t.b + 1 as d from t order by d limit 2")
        self.units(found, ("core", None, ()))
        self.same((found.groups, found.outs, found.outnames), ((col(0, 0),), (col(0, 0),), ("d",)))
        self.same(found.units[0].source.outs, (("add", col(0, 1), ("num", 1)),))

    def test_classes(self):
        unit = RawUnit(kind="left", source=T, conds=(1,))
        self.same((unit.kind, unit.source, unit.conds), ("left", T, (1,)))
        fields = ("units", "tests", "grouped", "groups", "aggs", "having", "outs", "outnames", "outkinds",
                  "orders", "limit", "listed", "distinct")
        told = [(unit,), (2,), True, (), (4,), (5,), (6,), (7,), (8,), (9,), 10, True, False]
        for block in (RawBlock(*told), RawBlock(**dict(zip(fields, told)))):
            self.same([getattr(block, field) for field in fields], told)
            self.same(block.bare(), True)
        told[3] = (3,)
        self.same(RawBlock(*told).bare(), False)
        told[2:4] = [False, ()]
        self.same(RawBlock(*told).bare(), False)

    def test_formed(self):
        """Raw blocks of many questions are formed as [44] says."""
        chance = random.Random(44)
        many = 0
        for question in helper.chance_questions(440, 300):
            house = helper.store()
            try:
                found = raw_of(house, put_in(house, question), chance.choice((True, False)))
            except TooMuch:
                continue
            many += 1
            self.check(found)
        self.assertGreater(many, 250)

    def check(self, block):
        for at, unit in enumerate(block.units):
            let = [u for u in range(at) if block.units[u].kind in ("core", "left")] + [at]
            for cond in unit.conds:
                self.assertNotEqual(unit.kind, "core")
                self.assertTrue(all(column[1] in let for column in columns_in(cond)))
            if not isinstance(unit.source, tuple):
                self.check(unit.source)
        self.same(block.distinct, False)
        self.same(len(block.outs), len(block.outnames))
        for member in block.having:
            self.assertTrue(set(columns_in(member)) <= set(block.groups))


if __name__ == "__main__":
    unittest.main()
