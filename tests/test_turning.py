"""[43] Turnings of raw blocks."""

import unittest

import helper
from helper import block_in, col, over, raw_block, units_raw
from leastplans.raws import RawUnit
from leastplans.turning import by_turns, distinct_turned, having_moved

ENDS = {
    "outnames": ("x", "y", "z"), "outkinds": ("number", "number", "text"),
    "orders": ((1, "desc"),), "limit": 4, "listed": True,
}
STRICT = over("u1.c0 = 3")
TIE = over("u1.c0 = u0.c0")
OTHER = over("u2.c0 = u1.c1")


class Turned(helper.Case):

    def same_but(self, found, raw, **changed):
        """found has the fields of raw, but for the told ones, and is another object."""
        self.same(vars(found), {**vars(raw), **changed})
        self.assertIsNot(found, raw)

    def unchanged(self, call, raw):
        self.same_but(call(raw=raw), raw)


class ByTurnsTest(Turned):

    def test_nothing_to_do(self):
        self.unchanged(by_turns, raw_block(units_raw("core", ("left", (TIE,))), tests=(over("u0.c0 = 3"),)))
        self.unchanged(by_turns, raw_block(
            units_raw("core", ("left", (TIE,))), tests=(over("u1.c0 is null"), over("1 = 2"))))
        # semi and anti units stay what they are
        self.unchanged(by_turns, raw_block(
            units_raw("core", ("semi", (TIE,)), ("anti", (over("u2.c0 = u0.c0"),))), tests=(over("u0.c0 = 3"),)))

    def test_strict(self):
        raw = raw_block(units_raw("core", ("left", (TIE, over("u1.c1 = 2")))),
                        tests=(over("u0.c0 = 1"), STRICT, over("u0.c0 = 2")), outs=(col(1, 0),))
        before = helper.kinds(raw)
        found = by_turns(raw)
        self.same(helper.kinds(raw), before)
        self.same_but(found, raw, units=units_raw("core", "core"),
                      tests=raw.tests + (TIE, over("u1.c1 = 2")))

    def test_strict_in_turn(self):
        """A unit that becomes core lets others become so; the first one goes first."""
        units = units_raw("core", ("left", (TIE,)), ("left", (OTHER,)))
        raw = raw_block(units, tests=(over("u2.c1 > 0"),))
        self.same(by_turns(raw).tests, (over("u2.c1 > 0"), OTHER, TIE))
        raw = raw_block(units, tests=(over("u2.c1 > 0"), STRICT))
        self.same(by_turns(raw).tests, (over("u2.c1 > 0"), STRICT, TIE, OTHER))
        self.same([unit.kind for unit in by_turns(raw).units], ["core"] * 3)
        # the tie of a later one touches a unit that stays
        raw = raw_block(units, tests=(STRICT,))
        self.same_but(by_turns(raw), raw, tests=(STRICT, TIE),
                      units=units_raw("core", "core", ("left", (OTHER,))))

    def test_merge(self):
        below = raw_block(units_raw("core", ("left", (TIE,))), outs=(col(1, 2), ("num", 5)))
        raw = raw_block((block_in(below), units_raw("core")[0], block_in(below)),
                        tests=(over("u0.c1 = u2.c1"),), outs=(col(2, 0),))
        found = by_turns(raw)
        self.same_but(found, raw, tests=(("cmp", "=", ("num", 5), ("num", 5)),), outs=(col(4, 2),),
                      units=units_raw("core", ("left", (TIE,)), "core", "core",
                                      ("left", (over("u4.c0 = u3.c0"),))))

    def test_strict_ahead_of_merge(self):
        """All that is strict is done ahead of any merging, and again behind one."""
        below = raw_block(units_raw("core", ("left", (TIE,))), outs=(col(0, 0), col(1, 3)),
                          tests=(over("u0.c7 = 7"),))
        raw = raw_block(
            (block_in(below), RawUnit("left", ("table", "t"), (over("u1.c1 = u0.c1"),))),
            tests=(over("u1.c0 = 4"),))
        found = by_turns(raw)
        # u1 becomes core; its cond touches the output of the inner left unit, which then is strict
        self.same([unit.kind for unit in found.units], ["core"] * 3)
        self.same(found.tests, (
            over("u2.c0 = 4"), over("u2.c1 = u1.c3"), over("u0.c7 = 7"), TIE))

    def test_left_block(self):
        """A left unit that becomes core may be merged; those that stay left are not."""
        below = raw_block(units_raw("core"), outs=(col(0, 6),))
        conds = (over("u1.c0 = u0.c0"),)
        raw = raw_block(units_raw("core") + (block_in(below, "left", conds),), tests=(over("u1.c0 = 1"),))
        self.same_but(by_turns(raw), raw, units=units_raw("core", "core"),
                      tests=(over("u1.c6 = 1"), over("u1.c6 = u0.c0")))
        self.unchanged(by_turns, raw_block(units_raw("core") + (block_in(below, "left", conds),)))

    def test_room_is_used_by_the_first(self):
        below = raw_block(units_raw("core", "core", "core"), outs=(col(0, 6),))
        raw = raw_block((block_in(below), block_in(below)))
        found = by_turns(raw)
        self.same([helper.kinds(unit.source) for unit in found.units[:3]], [helper.kinds(("table", "t"))] * 3)
        self.assertIs(found.units[3].source, below)


class DistinctTest(Turned):

    def test_not_distinct(self):
        self.unchanged(distinct_turned, raw_block(units_raw("core"), outs=(col(0, 0),), **ENDS))

    def test_columns(self):
        outs = (col(0, 1), col(0, 0), col(0, 1))
        raw = raw_block(units_raw("core"), outs=outs, tests=(over("u0.c0 = 1"),), distinct=True, **ENDS)
        self.same_but(distinct_turned(raw), raw, grouped=True, groups=(col(0, 1), col(0, 0)), distinct=False)

    def wrapped(self, raw):
        before = helper.kinds(raw)
        found = distinct_turned(raw)
        self.same(helper.kinds(raw), before)
        columns = tuple([col(0, place) for place in range(len(raw.outs))])
        self.same([unit.kind for unit in found.units], ["core"])
        self.same(found.units[0].conds, ())
        self.same_but(found.units[0].source, raw, orders=(), limit=None, listed=False, distinct=False)
        self.same_but(found, raw, units=found.units, tests=(), grouped=True, groups=columns, aggs=(),
                      having=(), outs=columns, distinct=False)

    def test_expressions(self):
        outs = (col(0, 1), ("add", col(0, 0), ("num", 1)), ("text", "x"))
        self.wrapped(raw_block(units_raw("core"), outs=outs, tests=(over("u0.c0 = 1"),), distinct=True, **ENDS))

    def test_grouped(self):
        outs = (col(0, 1), col(0, 1), col(0, 1))
        grouped = {"grouped": True, "groups": (col(0, 1), col(0, 2)), "outs": outs, "distinct": True}
        self.wrapped(raw_block(units_raw("core"), having=(("cmp", "=", ("agg", 0), ("num", 1)),),
                               aggs=(("count", None, None),), **grouped, **ENDS))
        self.wrapped(raw_block(units_raw("core"), **grouped, **{**ENDS, "limit": None, "orders": (), "listed": False}))


class HavingTest(Turned):

    def test_members(self):
        having = (
            over("u0.c0 = 1"), ("cmp", "=", col(0, 0), ("agg", 0)), over("1 = 1"),
            ("cmp", "=", ("agg", 0), ("num", 1)), over("u0.c1 is null or 1 = u0.c0"))
        raw = raw_block(units_raw("core"), tests=(over("u0.c2 = 1"),), grouped=True, having=having,
                        groups=(col(0, 0), col(0, 1)), aggs=(("count", None, None),), **ENDS)
        before = helper.kinds(raw)
        self.same_but(having_moved(raw), raw, tests=raw.tests + (having[0], having[4]),
                      having=having[1:4])
        self.same(helper.kinds(raw), before)

    def test_nothing_to_do(self):
        self.unchanged(having_moved, raw_block(units_raw("core"), tests=(over("u0.c0 = 1"),)))
        self.unchanged(having_moved, raw_block(units_raw("core"), grouped=True, having=(over("1 = 2"),)))


if __name__ == "__main__":
    unittest.main()
