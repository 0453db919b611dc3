"""[42] Units that are merged."""

import unittest

import helper
from helper import block_in, col, over, raw_block, units_raw
from leastplans.merging import can_merge, merged
from leastplans.raws import RawUnit

INNER = {"outs": (col(0, 1), ("add", col(0, 0), ("num", 1)), col(1, 0))}


def inner(many=2, **more):
    return raw_block(units_raw(*["core"] * many), **{**INNER, **more})


def around(one, **more):
    """A block of a table, the block one, and a table."""
    return raw_block((units_raw("core")[0], block_in(one), units_raw("core")[0]), **more)


class CanMergeTest(helper.Case):

    def let(self, raw, unit=1):
        self.same(can_merge(raw=raw, unit=unit), True)

    def barred(self, raw, unit=1):
        self.same(can_merge(raw, unit), False)

    def test_kinds(self):
        self.let(around(inner()))
        for kind in ("left", "semi", "anti"):
            self.barred(raw_block((units_raw("core")[0], block_in(inner(), kind))))
        self.barred(around(inner()), 0)
        self.barred(around(inner()), 2)

    def test_source(self):
        self.barred(around(inner(grouped=True)))
        self.barred(around(inner(grouped=True, groups=(col(0, 1),))))
        self.barred(around(inner(distinct=True)))
        self.barred(around(inner(limit=7, listed=True)))
        self.barred(around(inner(limit=0, listed=True)))
        self.let(around(inner(tests=(over("u0.c0 = 1"),))))
        left = raw_block(units_raw("core", ("left", (over("u1.c0 = u0.c0"),)), "semi", "anti"),
                         outs=(col(0, 0),))
        self.let(raw_block((block_in(left),)), 0)

    def test_columns(self):
        grouped = {"grouped": True}
        self.let(around(inner(), groups=(col(1, 0), col(1, 2)), **grouped))
        self.barred(around(inner(), groups=(col(1, 0), col(1, 1)), **grouped))
        self.let(around(inner(), groups=(col(0, 1), col(2, 1)), **grouped))
        self.let(around(inner(), aggs=(("sum", 1, 0), ("count", None, None)), **grouped))
        self.barred(around(inner(), aggs=(("count", None, None), ("sum", 1, 1)), **grouped))
        self.let(around(inner(), aggs=(("sum", 0, 1), ("min", 2, 1)), **grouped))
        # in tests, outs and having it may be any expression
        self.let(around(inner(), tests=(over("u1.c1 = 2"),), outs=(col(1, 1),)))
        # a number is no column
        self.barred(around(inner(outs=(("num", 1),)), groups=(col(1, 0),), **grouped))

    def test_room(self):
        self.let(around(inner(3)))
        self.barred(around(inner(4)))
        self.let(around(inner(2), grouped=True))
        self.barred(around(inner(3), grouped=True))
        self.let(around(inner(2), distinct=True))
        self.barred(around(inner(3), distinct=True))
        self.let(raw_block((block_in(inner(5)),)), 0)
        self.barred(raw_block((block_in(inner(6)),)), 0)
        self.let(raw_block((block_in(inner(4)),), grouped=True), 0)
        self.barred(raw_block((block_in(inner(5)),), distinct=True), 0)
        self.barred(raw_block((block_in(inner(5)),), grouped=True), 0)


class MergedTest(helper.Case):

    def test_places(self):
        below = raw_block(
            units_raw("core", ("left", (over("u1.c0 = u0.c0 + 1"),))),
            tests=(over("u0.c2 = 5"), over("u1.c0 is null")), **INNER)
        raw = raw_block(
            (units_raw("core")[0], block_in(below), units_raw("core")[0],
             block_in(inner(), "left", (over("u3.c0 = u1.c1"), over("u3.c1 = u2.c0")))),
            tests=(over("u0.c0 = u1.c0"), over("u1.c1 < u2.c3")), grouped=True,
            groups=(col(1, 0), col(2, 1), col(1, 2)),
            aggs=(("sum", 1, 2), ("count", None, None), ("min", 2, 0), ("max", 0, 4)),
            having=(("cmp", "=", col(1, 2), ("agg", 1)),),
            outs=(("add", col(1, 0), ("agg", 0)), col(2, 1)), outnames=("x", "y"),
            outkinds=("number", "text"), orders=((1, "desc"),), limit=4, listed=True, distinct=True)
        before = helper.kinds(raw)
        found = merged(raw=raw, unit=1)
        self.same(helper.kinds(raw), before)
        self.same([unit.kind for unit in found.units], ["core", "core", "left", "core", "left"])
        self.same([unit.conds for unit in found.units], [
            (), (), (over("u2.c0 = u1.c0 + 1"),), (),
            (over("u4.c0 = u1.c0 + 1"), over("u4.c1 = u3.c0"))])
        self.assertIs(found.units[4].source, raw.units[3].source)
        self.same(found.tests, (
            over("u0.c0 = u1.c1"), over("u1.c0 + 1 < u3.c3"), over("u1.c2 = 5"),
            over("u2.c0 is null")))
        self.same(found.groups, (col(1, 1), col(3, 1), col(2, 0)))
        self.same(found.aggs, (("sum", 2, 0), ("count", None, None), ("min", 3, 0), ("max", 0, 4)))
        self.same(found.having, (("cmp", "=", col(2, 0), ("agg", 1)),))
        self.same(found.outs, (("add", col(1, 1), ("agg", 0)), col(3, 1)))
        for field in ("grouped", "outnames", "outkinds", "orders", "limit", "listed", "distinct"):
            self.same(getattr(found, field), getattr(raw, field))

    def test_same_groups(self):
        below = raw_block(units_raw("core"), outs=(col(0, 1), col(0, 1), col(0, 0)))
        raw = raw_block(
            (block_in(below), units_raw("core")[0]), grouped=True,
            groups=(col(0, 1), col(1, 0), col(0, 0), col(0, 2)),
            aggs=(("sum", 0, 0), ("sum", 0, 1), ("min", 0, 2)), outs=(("agg", 1),))
        found = merged(raw, 0)
        self.same(found.groups, (col(0, 1), col(1, 0), col(0, 0)))
        self.same(found.aggs, (("sum", 0, 1), ("sum", 0, 1), ("min", 0, 0)))
        self.same(found.outs, (("agg", 1),))
        self.same(merged(raw_block((block_in(raw_block(units_raw("core", "core"), outs=(col(1, 3),))),),
                                   outs=(col(0, 0),)), 0).outs, (col(1, 3),))

    def test_one_for_one(self):
        """A block with one unit moves no numbers."""
        below = raw_block((RawUnit("core", ("table", "s"), ()),), outs=(col(0, 5),))
        raw = raw_block(units_raw("core") + (block_in(below),) + units_raw("core"),
                        tests=(over("u1.c0 = u2.c0"),))
        found = merged(raw, 1)
        self.same([unit.source for unit in found.units], [("table", "t"), ("table", "s"), ("table", "t")])
        self.same(found.tests, (over("u1.c5 = u2.c0"),))


if __name__ == "__main__":
    unittest.main()
