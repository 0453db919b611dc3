"""[48] Blocks."""

import unittest

import helper
from helper import mark, over_marks
from leastplans.blocks import Block, Unit, block_of
from leastplans.errors import BadKind, BadPlace, NoName, TooMuch
from leastplans.putting import used
from leastplans.questionreading import read_question
from leastplans.views import make_view

T_TOLD, S_TOLD = (("rows", 100),), (("rows", 100),)


def conds(*texts):
    return tuple([over_marks(text) for text in texts])


class BlocksTest(helper.Case):
    """Over helper.store(): t has a, b, x (text); s has a, c, y (text); p has k; v has a, w (text)."""

    def block(self, text):
        return helper.block(helper.store(), text)

    def test_every_field(self):
        house = helper.store()
        house.add_index("t", "ixb", ("b", "a"))
        house.add_index("t", "ixa", ("x",))
        house.retell("t", (("lies", ("b", "x")), ("fan", ("x", "a"), 3), ("rows", 7), ("dist", "x", 2),
                           ("key", ("a",))))
        question = read_question(
            "select t.a + 1 as e, t.x, 'c' as d from t, s left join p q on q.k = s.c and q.k > t.a and q.k > 0 "
            "where t.b = 4 and s.a = t.a and s.y = 'h' and t.x < s.y and exists (from s where s.c = 2 and 1 = 1) "
            "order by x desc limit 3")
        before = helper.kinds(question)
        found = block_of(house=house, question=question)
        self.same(helper.kinds(question), before)
        self.assertIsInstance(found, Block)
        # mentioned: 00 01 02 10 11 12 20 31; t.a and s.a bear one mark
        self.same({name: vars(found)[name] for name in vars(found) if name != "units"}, {
            "fixed": ((1, 4), (5, "h")), "tests": conds("m.m2 < m.m5"), "groups": (), "grouped": False,
            "aggs": (), "having": (), "outs": (("add", mark(0), ("num", 1)), mark(2), ("text", "c")),
            "outnames": ("e", "x", "d"), "outkinds": ("number", "text", "text"), "orders": ((1, "desc"),),
            "limit": 3, "listed": True})
        self.same(found.bare(), False)
        for unit in found.units:
            self.assertIsInstance(unit, Unit)
        self.same([vars(unit) for unit in found.units], [
            {"kind": "core", "source": "t", "wide": 3, "cols": ((0, 0), (1, 1), (2, 2)), "own": (), "ties": (),
             "need": (), "told": (("lies", (1, 2)), ("fan", (2, 0), 3), ("rows", 7), ("dist", 2, 2), ("key", (0,))),
             "lies": (1, 2), "indexed": (("ixa", (2,)), ("ixb", (1, 0)))},
            {"kind": "core", "source": "s", "wide": 3, "cols": ((0, 0), (1, 4), (2, 5)), "own": (), "ties": (),
             "need": (), "told": S_TOLD, "lies": (), "indexed": ()},
            {"kind": "left", "source": "p", "wide": 1, "cols": ((0, 6),), "own": conds("m.m6 > 0"),
             "ties": conds("m.m6 = m.m4", "m.m6 > m.m0"), "need": (0, 4),
             "told": (("rows", 100), ("key", (0,))), "lies": (), "indexed": ()},
            {"kind": "semi", "source": "s", "wide": 3, "cols": ((1, 7),), "own": conds("m.m7 = 2", "1 = 1"),
             "ties": (), "need": (), "told": S_TOLD, "lies": (), "indexed": ()},
        ])
        self.assertIsNot(block_of(house, question), found)

    def test_sums(self):
        found = helper.block(helper.shop(), "select t.a, sum (t.b) as x, count (*) as n from t join s "
                                            "on t.a = s.a group by t.a")
        self.same([unit.cols for unit in found.units], [((0, 0),), ((0, 0),)])
        self.same((found.groups, found.aggs), ((0,), (("sum", 0, 1), ("count", None, None))))
        self.same((found.fixed, found.tests, found.outs), ((), (), (mark(0), ("agg", 0), ("agg", 1))))

    def test_marks(self):
        """The mark of a class is the place of its least column; numbers may be left out."""
        found = self.block("select t.x, s.c from t, s, p where t.a = s.a and p.k = t.a and s.c = t.b and s.y = 'q'")
        self.same([unit.cols for unit in found.units], [
            ((0, 0), (1, 1), (2, 2)), ((0, 0), (1, 1), (2, 5)), ((0, 0),)])
        self.same((found.outs, found.fixed), ((mark(2), mark(1)), ((5, "q"),)))
        found = self.block("select t.x, s.y from t, s where s.a = t.a and t.a = t.b and s.c = 1")
        self.same([unit.cols for unit in found.units], [((0, 0), (1, 0), (2, 2)), ((0, 0), (1, 4), (2, 5))])
        # columns of attachments bear their own marks
        found = self.block("select s.a from t left join s on s.a = t.a and s.c = t.a where exists "
                           "(from p where p.k = t.a and p.k = s.c)")
        self.same([unit.cols for unit in found.units], [((0, 0),), ((0, 1), (1, 2)), ((0, 3),)])
        self.same([unit.need for unit in found.units], [(), (0,), (0, 2)])

    def test_groups(self):
        """Groups of one class are one; having moved is a test."""
        found = self.block(
            "select t.a, s.a as d, max (t.x) as e from t join s on t.a = s.a group by s.a, t.a, t.b "
            "having t.b > 1 and count (*) > t.b")
        self.same((found.grouped, found.bare(), found.groups), (True, False, (0, 1)))
        self.same(found.aggs, (("max", 0, 2), ("count", None, None)))
        self.same((found.tests, found.having), (conds("m.m1 > 1"), (("cmp", ">", ("agg", 1), mark(1)),)))
        self.same(found.outs, (mark(0), mark(0), ("agg", 0)))
        found = self.block("select count (*) as n from t where t.a = 1 order by n")
        self.same((found.bare(), found.groups, found.orders, found.listed), (True, (), ((0, "asc"),), True))
        # a group may be fixed
        found = self.block("select t.a, count (*) as n from t where t.a = 1 group by t.a")
        self.same((found.groups, found.fixed, found.tests), ((0,), ((0, 1),), ()))

    def test_inner_blocks(self):
        found = self.block(
            "select u.m, u.b from (select t.a, t.b, t.a + 1 as d, count (*) as m from t group by t.a, t.b, t.x) u "
            "where u.b > 1 and u.m = 5 and u.d = 2 and u.a = 3 and u.a = u.b and u.m + u.b < 9")
        unit = found.units[0]
        self.same((unit.wide, unit.told, unit.lies, unit.indexed, unit.kind), (4, (), (), (), "core"))
        self.same(unit.cols, ((0, 0), (1, 0), (2, 2), (3, 3)))
        self.same((found.fixed, found.tests), (((0, 3), (2, 2), (3, 5)), conds("m.m0 > 1", "m.m3 + m.m0 < 9")))
        inner = unit.source
        self.assertIsInstance(inner, Block)
        # what has an agg goes to its having, the rest to its tests; there it fixes, links, tests
        self.same(inner.having, (
            ("cmp", "<", ("add", ("agg", 0), mark(0)), ("num", 9)), ("cmp", "=", ("agg", 0), ("num", 5))))
        # of two that fix the class that b and a are in there, the second stays
        self.same(inner.tests, conds("m.m0 > 1", "m.m0 = 3", "m.m0 + 1 = 2"))
        self.same(inner.fixed, ((0, 3),))
        self.same(inner.units[0].cols, ((0, 0), (1, 0), (2, 2)))
        self.same((inner.listed, inner.outs), (
            False, (mark(0), mark(0), ("add", mark(0), ("num", 1)), ("agg", 0))))

    def test_inner_limit(self):
        found = self.block("select u.a from (select t.a, t.b from t order by b desc limit 4) u where u.a = 3")
        inner = found.units[0].source
        self.same((inner.fixed, inner.tests, inner.limit, inner.orders, inner.listed),
                  ((), (), 4, ((1, "desc"),), True))
        self.same(inner.units[0].cols, ((0, 0), (1, 1)))

    def test_inner_bare(self):
        """What has no column goes behind having, if the inner block is grouped."""
        found = self.block(
            "select u.n from (select count (*) as n, 2 as m from t) u where u.n > 1 and u.m = 2 and u.m < u.n")
        self.same(found.units[0].source.having, (
            ("cmp", ">", ("agg", 0), ("num", 1)), ("cmp", "<", ("num", 2), ("agg", 0)),
            ("cmp", "=", ("num", 2), ("num", 2))))
        self.same(found.units[0].source.tests, ())
        self.same(found.fixed, ((1, 2),))
        found = self.block("select u.m from t left join (select t.a, 2 as m from t) u on u.m = 2 and u.a = t.a")
        self.same(found.units[1].source.tests, (("cmp", "=", ("num", 2), ("num", 2)),))
        self.same(found.units[1].own, conds("m.m2 = 2"))

    def test_copied_all_the_way(self):
        """What goes into a block goes on into the blocks in it."""
        found = self.block(
            "select w.n from (select u.a, count (*) as n from (select t.a, count (*) as m from t group by t.a) u "
            "group by u.a) w where w.a = 3")
        middle = found.units[0].source
        inner = middle.units[0].source
        for block in (found, middle, inner):
            self.same(block.fixed, ((0, 3),))
        # of an in and an exists
        found = self.block(
            "select t.a from t where t.a = 3 and 7 in (select s.c from s) and not exists "
            "(from s, p where s.c = t.a and s.a = p.k and p.k = 4)")
        self.same(found.units[1].source.fixed, ((0, 7),))
        self.same(found.units[1].own, conds("7 = m.m1"))
        self.same(found.units[2].source.fixed, ((0, 4),))
        self.same(found.units[2].need, (0,))

    def test_refused(self):
        cases = [
            ("select x.a from x", NoName("x")), ("select t.a + 'x' as d from t", BadKind("items")),
            ("select t.a from t where count (*) = 1", BadPlace("agg")),
        ]
        for text, error in cases:
            self.refused(error, self.block, text)
        # what checked raises goes ahead
        sources = ", ".join(f"v v{at}" for at in range(7)) + ", v"
        self.refused(BadKind("where"), self.block, f"select v.a from {sources} where v.w = 1")
        self.refused(TooMuch("blocks"), self.block, f"select v.a from {sources}")
        # blocks go ahead of units
        limited = ", ".join(f"(select t.a from t limit 1) v{at}" for at in range(8))
        self.refused(TooMuch("blocks"), self.block, f"select v0.a from {limited}")

    def test_units(self):
        many = [", ".join(f"t t{at}" for at in range(number)) for number in range(7)]
        self.same(len(self.block(f"select t0.a from {many[5]}").units), 5)
        self.refused(TooMuch("units"), self.block, f"select t0.a from {many[6]}")
        self.same(len(self.block(f"select t0.a from {many[4]} group by t0.a").units), 4)
        self.refused(TooMuch("units"), self.block, f"select t0.a from {many[5]} group by t0.a")
        self.refused(TooMuch("units"), self.block, f"select count (*) as n from {many[5]}")
        self.same(len(self.block(f"select count (*) as n from {many[4]}").units), 4)
        self.refused(TooMuch("units"), self.block, f"select distinct t0.a from {many[5]}")
        # distinct of expressions is a block around one that is not grouped
        self.same(len(self.block(f"select distinct t0.a + 1 as d from {many[5]}").units[0].source.units), 5)
        self.refused(TooMuch("units"), self.block, f"select distinct t0.a + 1 as d from {many[6]}")
        # units of where count
        self.refused(TooMuch("units"), self.block,
                     f"select t0.a from {many[4]} where exists (from s) and 1 in (select p.k from p)")
        self.same(len(self.block(f"select t0.a from {many[4]} where exists (from s)").units), 5)
        self.refused(TooMuch("units"), self.block, f"select t0.a from {many[4]} where exists (from s) group by t0.a")
        # in inner blocks, too, whether they are merged or not
        self.refused(TooMuch("units"), self.block, f"select t.a from t where t.a in (select t0.a from {many[6]})")
        self.refused(TooMuch("units"), self.block,
                     f"select t.a from t where exists (from s, (select count (*) as n from {many[5]}) u)")
        self.same(len(self.block(f"select u.a from (select t0.a from {many[5]}) u").units), 5)
        self.same(len(self.block(f"select u.a from (select t0.a from {many[4]}) u, t").units), 5)
        self.same(len(self.block(f"select u.a from (select t0.a from {many[5]}) u, t").units), 2)

    def test_what_it_stands_on(self):
        """The same used, the same block; facts, indexes and views change it, rows do not."""
        house = helper.shop()
        make_view(house, "v", "select t.a from t where t.b > 1 limit 7")
        question = read_question("select v.a, s.c from v left join s on s.a = v.a")
        first = (used(house, question), helper.kinds(block_of(house, question)))

        def told():
            return (used(house, question), helper.kinds(block_of(house, question)))

        house.put("t", (1, 2))
        house.put("s", (1, 2))
        house.take("s", (1, 2))
        house.add_table("r", helper.number_columns("a", ""), (("rows", 1),))
        self.assertEqual(told(), first)
        deeds = [
            lambda: house.add_index("s", "byc", ("c",)), lambda: house.retell("t", (("rows", 8),)),
            lambda: house.drop_index("s", "byc"), lambda: house.retell("s", (("rows", 9), ("lies", ("c",)))),
        ]
        for deed in deeds:
            before = told()
            deed()
            after = told()
            self.assertNotEqual(before[0], after[0])
            self.assertNotEqual(before[1], after[1])
            self.assertEqual(told(), after)

    def test_chance(self):
        """The need of a unit is borne by units before it; marks are borne as [7] says."""
        many = 0
        for question in helper.chance_questions(480, 400):
            try:
                block = block_of(helper.store(), question)
            except TooMuch:
                continue
            many += 1
            self.check(block)
        self.assertGreater(many, 350)

    def check(self, block):
        self.assertLessEqual(len(block.units), 4 if block.grouped else 5)
        core = [mark for unit in block.units if unit.kind == "core" for _, mark in unit.cols]
        seen = []
        for unit in block.units:
            own = [mark for _, mark in unit.cols]
            self.assertEqual(list(unit.cols), sorted(unit.cols))
            if unit.kind != "core":
                self.assertFalse(set(own) & set(core))
                self.assertEqual(len(own), len(set(own)))
            self.assertTrue(set(unit.need) <= set(seen))
            self.assertEqual(list(unit.need), sorted(set(unit.need)))
            if unit.kind in ("core", "left"):
                seen.extend(own)
            if isinstance(unit.source, Block):
                self.check(unit.source)
                self.assertEqual(unit.wide, len(unit.source.outs))
        self.assertTrue({mark for mark, _ in block.fixed} <= set(core))
        self.assertTrue(set(block.groups) <= set(seen))


if __name__ == "__main__":
    unittest.main()
