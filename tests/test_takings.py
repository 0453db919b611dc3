"""[65] Rows that leaf steps take."""

import random
import unittest

import helper
import slowrows
from leastplans.takings import leaf_row


class LeafRowTest(helper.Case):

    def check(self, text, u, *cases):
        """Each case is a row and the weighted row that it gives, or None."""
        block = helper.block(helper.store(), text)
        for row, wanted in cases:
            with self.subTest(text=text, row=row):
                self.same(leaf_row(block=block, u=u, row=row), wanted)
                self.same(leaf_row(block, u, row), wanted)

    def test_values(self):
        """Of all marks of the unit, rising; nulls, too."""
        text = "select t.x, t.a from t, s where t.b = s.c"
        self.check(text, 0, ((5, 2, "x"), ((5, 2, "x"), 1, ())), ((5, None, None), ((5, None, None), 1, ())))
        self.check(text, 1, ((7, 2, "y"), ((2,), 1, ())))
        self.check("select t.b from t", 0, ((5, None, "x"), ((None,), 1, ())))
        self.check("select count (*) as n from t", 0, ((5, 2, "x"), ((), 1, (None,))))

    def test_one_mark_twice(self):
        text = "select t.a from t where t.a = t.b"
        self.check(text, 0, ((5, 5, "x"), ((5,), 1, ())), ((5, 4, "x"), None), ((5, None, "x"), None))
        text = "select s.a from s, t where s.a = t.b and s.c = t.b"
        self.check(text, 0, ((None, None, "y"), None), ((3, 3, "y"), ((3,), 1, ())), ((None, 3, "y"), None), ((3, None, "y"), None))
        self.check(text, 1, ((0, None, ""), ((None,), 1, ())))

    def test_fixed(self):
        text = "select t.a from t where t.b = 3 and t.x = 'a'"
        self.check(text, 0, ((1, 3, "a"), ((1, 3, "a"), 1, ())), ((1, 3, "b"), None), ((1, 4, "a"), None), ((1, None, "a"), None),
                   ((1, 3, None), None))
        self.check("select t.a from t where t.b = 0 and t.x = ''", 0, ((1, 0, ""), ((1, 0, ""), 1, ())), ((1, None, ""), None), ((1, 0, None), None))
        # by a column of another unit
        text = "select t.a from t, s where t.a = s.c and s.c = 3"
        self.check(text, 0, ((3, 1, "a"), ((3,), 1, ())), ((4, 3, "a"), None))
        self.check(text, 1, ((1, 3, "a"), ((3,), 1, ())), ((3, None, "a"), None))
        # twice fixed: the second one is a test
        self.check("select t.a from t where t.b = 3 and t.b = 4", 0, ((1, 3, "a"), None), ((1, 4, "a"), None))
        self.check("select t.a from t where t.b = 3 and 3 = t.b", 0, ((1, 3, "a"), ((1, 3), 1, ())))

    def test_tests(self):
        """Each test that is ready in the unit alone; others are not looked at."""
        text = "select t.a from t, s where t.b > 1 and t.x <> 'a' and t.b < s.c and maybe [s.a = 1]"
        self.check(text, 0, ((1, 2, "b"), ((1, 2, "b"), 1, ())), ((1, 1, "b"), None), ((1, None, "b"), None), ((1, 2, "a"), None),
                   ((1, 2, None), None))
        self.check(text, 1, ((1, 0, "y"), ((1, 0), 1, ())), ((None, None, "y"), ((None, None), 1, ())), ((2, 0, "y"), None))
        # tests without marks
        self.check("select t.a from t where 1 = 2", 0, ((1, 0, "a"), None))
        self.check("select t.a from t where 1 = 1", 0, ((1, 0, "a"), ((1,), 1, ())))
        self.check("select t.a from t where t.b is null and 2 > 1", 0,
                   ((1, None, "a"), ((1, None), 1, ())), ((1, 0, "a"), None))

    def test_attachments(self):
        """Own conditions alone: no ties, no tests, and columns that are equal to nothing here."""
        cond = "s.a = t.a and s.c = 4 and s.y > 'b'"
        for text in (f"select t.b from t left join s on {cond}", f"select t.b from t where exists (from s where {cond})",
                     f"select t.b from t where not exists (from s where {cond})"):
            self.check(text, 1, ((9, 4, "c"), ((9, 4, "c"), 1, ())), ((None, 4, "c"), ((None, 4, "c"), 1, ())), ((9, 5, "c"), None),
                       ((9, None, "c"), None), ((9, 4, "b"), None))
        text = "select t.b from t left join s on s.a = t.a and s.c = t.a where 1 = 2 and maybe [s.c = 5]"
        self.check(text, 1, ((1, 2, "y"), ((1, 2), 1, ())), ((None, None, "y"), ((None, None), 1, ())))
        # conditions without marks are own ones
        self.check("select t.b from t left join s on s.a = t.a and 1 = 2", 1, ((1, 2, "y"), None))
        # the source is a block, whose own tests are not looked at again
        self.check("select t.b from t where t.b not in (select s.a from s where s.c = 2)", 1, ((None,), ((None,), 1, ())))

    def test_folds(self):
        text = ("select t.a, count (*) as n, sum (t.b) as m, count (t.b) as k, min (t.x) as i "
                "from t left join s on s.a = t.a group by t.a")
        self.check(text, 0, ((1, 5, "x"), ((1,), 1, (None, 5, 1, "x"))), ((1, None, None), ((1,), 1, (None, None, 0, None))))
        self.check(text, 1, ((1, 5, "x"), ((1,), 1, (None, None, None, None))))
        text = ("select t.a, count (*) as n, max (s.c) as j, count (s.a) as l, max (t.b) as m "
                "from t left join s on s.a = t.a group by t.a")
        self.check(text, 0, ((1, 5, "x"), ((1,), 1, (None, None, None, 5))))
        self.check(text, 1, ((1, 5, "x"), ((1,), 1, (None, 5, 1, None))), ((None, None, "x"), ((None,), 1, (None, None, 0, None))))

    def test_blocks(self):
        text = "select u.a from (select t.a, count (*) as n from t group by t.a) u where u.n > 1"
        self.check(text, 0, ((1, 2), ((1, 2), 1, ())), ((1, 1), None))

    def test_beside_slow_ones(self):
        chance = random.Random(65)
        many = {None: 0}
        for house, block in helper.chance_blocks(651, 150):
            helper.put_let(house, chance, 4)
            for u, unit in enumerate(block.units):
                for row in slowrows.source_rows(house, unit):
                    wanted = slowrows.taken(block, u, row)
                    self.same(leaf_row(block, u, row), wanted)
                    many[wanted and unit.kind] = many.get(wanted and unit.kind, 0) + 1
        for kind in (None, "core", "left", "semi", "anti"):
            self.assertGreater(many[kind], 20, kind)


if __name__ == "__main__":
    unittest.main()
