"""[45] [46] Classes, fixed classes, and what is copied into inner blocks."""

import unittest

import helper
from helper import block_in, col, over, raw_block, units_raw
from leastplans.columnsin import columns_in
from leastplans.inward import copied_in
from leastplans.marking import classes_of, fixed_of


def tests(*texts):
    return tuple([over(text) for text in texts])


CORES = units_raw("core", "core", "core", "left")


class MarkingTest(helper.Case):

    def classes(self, raw, *wanted):
        before = helper.kinds(raw)
        self.same(classes_of(raw=raw), wanted)
        self.same(helper.kinds(raw), before)

    def test_mentioned(self):
        raw = raw_block(
            units_raw("core", ("left", (over("u1.c4 = u0.c5"), over("u1.c4 = 1"))), ("semi", (over("1 = u2.c2"),))),
            tests=tests("u0.c3 = 1 or 2 = u1.c7 + u0.c0"), grouped=True, groups=(col(0, 8),),
            aggs=(("sum", 0, 1), ("count", None, None)), outs=(("add", ("agg", 0), col(1, 9)), col(0, 8)),
            having=(("cmp", "=", ("agg", 0), ("num", 1)),))
        self.classes(raw, *[((u, c),) for u, c in (
            (0, 0), (0, 3), (0, 5), (0, 8), (1, 4), (1, 7), (1, 9), (2, 2))])
        self.classes(raw_block(CORES))

    def test_links(self):
        raw = raw_block(CORES, tests=tests("u1.c0 = u0.c0", "u2.c1 = u1.c0", "u0.c3 = u0.c2"), outs=(col(2, 0),))
        self.classes(raw, ((0, 0), (1, 0), (2, 1)), ((0, 2), (0, 3)), ((2, 0),))
        # two classes that a later link makes one
        raw = raw_block(CORES, tests=tests("u0.c0 = u1.c0", "u2.c0 = u1.c1", "u1.c2 = u0.c1", "u2.c0 = u0.c0"))
        self.classes(raw, ((0, 0), (1, 0), (1, 1), (2, 0)), ((0, 1), (1, 2)))
        raw = raw_block(CORES, tests=tests("u0.c0 = u1.c0", "u1.c0 = u0.c0", "u0.c0 = u1.c0"))
        self.classes(raw, ((0, 0), (1, 0)))

    def test_no_links(self):
        for text in ("u0.c0 = u0.c0", "u0.c0 = u3.c0", "u3.c1 = u1.c0", "u3.c0 = u3.c1", "u0.c0 <= u1.c0",
                     "u0.c0 = u1.c0 or 1 = 2", "not u0.c0 = u1.c0", "u0.c0 = u1.c0 + 0", "maybe u0.c0 = u1.c0"):
            with self.subTest(text=text):
                raw = raw_block(CORES, tests=tests(text))
                columns = sorted({column[1:] for column in columns_in(over(text))})
                self.classes(raw, *[(column,) for column in columns])
                self.same(fixed_of(raw), ((), tests(text)))
        # = in the conds of an attachment is no test
        raw = raw_block(units_raw("core", "core", ("semi", (over("u0.c0 = u1.c0"), over("u0.c1 = 3")))))
        self.classes(raw, ((0, 0),), ((0, 1),), ((1, 0),))
        self.same(fixed_of(raw), ((), ()))

    def test_fixed(self):
        raw = raw_block(CORES, tests=tests(
            "u1.c0 = 3", "u2.c0 = u0.c5", "'x' = u2.c0", "u0.c0 = u1.c0", "u0.c1 > 2", "u0.c1 = 0"))
        before = helper.kinds(raw)
        self.same(fixed_of(raw=raw), ((((0, 0), 3), ((0, 1), 0), ((0, 5), "x")), tests("u0.c1 > 2")))
        self.same(helper.kinds(raw), before)
        self.same(fixed_of(raw_block(CORES)), ((), ()))

    def test_fixed_twice(self):
        """The first one fixes the class; the others stay, also where they tell the same."""
        raw = raw_block(CORES, tests=tests("u1.c0 = 3", "u0.c0 = 3", "u0.c0 = u1.c0", "4 = u1.c0", "u1.c0 = 3"))
        self.same(fixed_of(raw), ((((0, 0), 3),), tests("u0.c0 = 3", "4 = u1.c0", "u1.c0 = 3")))
        raw = raw_block(CORES, tests=tests("'' = u0.c0", "u0.c0 = 'y'"))
        self.same(fixed_of(raw), ((((0, 0), ""),), tests("u0.c0 = 'y'")))

    def test_no_fixing(self):
        told = tests("u3.c0 = 3", "4 = u3.c1", "u0.c0 <> 1", "u0.c0 >= 1", "u0.c0 + 1 = 2", "u0.c0 = - 1",
                     "1 = 1", "u0.c0 = 1 or u0.c0 = 2", "not u0.c0 = 1", "u0.c0 is null", "maybe u0.c0 = 1")
        self.same(fixed_of(raw_block(CORES, tests=told)), ((), told))


class CopiedTest(helper.Case):

    def copied(self, units, told, **more):
        raw = raw_block(units, tests=told, **more)
        before = helper.kinds(raw)
        found = copied_in(raw=raw, classes=classes_of(raw), fixed=fixed_of(raw))
        self.same(helper.kinds(raw), before)
        return found

    def inner(self, **more):
        return raw_block(units_raw("core"), outs=tuple([col(0, at) for at in range(6)]), **more)

    def test_nothing(self):
        self.same(self.copied(units_raw("core", ("left", (over("u1.c0 = 1"),))), tests("u0.c0 = 3")), ((), ()))
        limited = self.inner(limit=4, listed=True)
        units = (block_in(limited), block_in(limited, "anti", (over("u1.c0 = 1"),)))
        self.same(self.copied(units, tests("u0.c0 = 3", "u0.c1 < 2")), ((), ()))
        self.same(self.copied(units[:1], ()), ((),))

    def test_core(self):
        units = (block_in(self.inner()), units_raw("core")[0], block_in(self.inner(grouped=True)),
                 block_in(self.inner(), "left"))
        found = self.copied(units, tests(
            "u2.c3 < u2.c1", "u0.c0 = u1.c0", "u2.c0 = u1.c0", "u1.c0 > 1", "u0.c5 = 2", "u1.c0 + u0.c1 < 0",
            "u2.c2 = u0.c1", "u1.c4 <> 1", "u0.c2 = 'x'", "u0.c3 = u0.c2", "u3.c0 is null", "1 = 1",
            "u2.c5 = u0.c5", "u2.c4 = u2.c0", "u2.c5 = 7", "u3.c1 = 5", "u1.c1 = u0.c4", "u0.c4 is null",
            "u0.c0 < u3.c0"))
        self.same(found[0], tests(
            "u0.c0 > 1", "u0.c0 + u0.c1 < 0", "u0.c5 = 7", "u0.c4 is null",
            "u0.c2 = 'x'", "u0.c3 = 'x'", "u0.c5 = 2", "u0.c2 = u0.c3"))
        self.same(found[1], ())
        self.same(found[2], tests(
            "u0.c3 < u0.c1", "u0.c0 > 1", "u0.c0 + u0.c2 < 0", "u0.c5 = 7", "u0.c5 = 2", "u0.c0 = u0.c4"))
        self.same(found[3], ())

    def test_least_stands_for_each(self):
        found = self.copied((block_in(self.inner()),) + units_raw("core"), tests(
            "u0.c4 = u1.c0", "u0.c2 = u1.c0", "u0.c4 < u0.c2 + u1.c0", "u0.c3 = u0.c2"))
        self.same(found, (tests("u0.c2 < u0.c2 + u0.c2", "u0.c2 = u0.c3", "u0.c2 = u0.c4"), ()))

    def test_attachments(self):
        conds = tests("u1.c3 = u1.c0", "u1.c0 = u0.c0", "1 = 1", "u0.c0 = 3", "not u1.c2 = 1", "maybe 'x' = u1.c1")
        for kind in ("left", "semi", "anti"):
            units = units_raw("core") + (block_in(self.inner(), kind, conds),)
            self.same(self.copied(units, tests("u0.c0 = 3")), (
                (), tests("u0.c3 = u0.c0", "not u0.c2 = 1", "maybe 'x' = u0.c1")))


if __name__ == "__main__":
    unittest.main()
