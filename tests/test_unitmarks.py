"""[49] [50] Binary figures; the marks of units."""

import unittest

import helper
from leastplans.lifts import bits, lift
from leastplans.unitmarks import bound_of, mark_of, pairs_of, row_marks


class LiftsTest(helper.Case):

    def test_told(self):
        for number, lifted, figures in [
            (0, 0, 0), (1, 0, 1), (2, 1, 2), (3, 2, 2), (4, 2, 3), (5, 3, 3), (7, 3, 3), (8, 3, 4), (9, 4, 4),
            (1023, 10, 10), (1024, 10, 11), (1025, 11, 11),
        ]:
            self.same((lift(number), bits(number)), (lifted, figures))
        self.same((lift(number=6), bits(number=6)), (3, 3))

    def test_great(self):
        for power in range(1, 300):
            number = 2 ** power
            self.same((lift(number), bits(number)), (power, power + 1))
            self.same((lift(number + 1), bits(number - 1)), (power + 1, power))
        for number in range(2, 3000):
            self.same(lift(number), len(f"{number - 1:b}"))
            self.same(bits(number), len(f"{number:b}"))


class UnitMarksTest(helper.Case):
    """Over helper.store(): t has a, b, x (text); s has a, c, y (text); p has k."""

    def block(self, text):
        return helper.block(helper.store(), text)

    def test_mark_of(self):
        block = self.block("select t.x from t, s where t.a = s.c and t.x = s.y and s.c = t.b")
        t, s = block.units
        self.same([mark_of(t, place) for place in range(3)], [0, 0, 2])
        self.same([mark_of(unit=s, place=place) for place in range(3)], [None, 0, 2])
        self.same([mark_of(unit, 0) for unit in self.block("select count (*) as n from p").units], [None])

    def test_bound(self):
        text = ("select t.a from t{} where 'q' = t.x and t.a = 3")
        within = ("s.a = 2 and 'h' = s.y and s.c > 1 and 3 = s.a and s.c = t.b and s.c = s.a and not s.c = 4 "
                  "and s.c + 0 = 5 and s.c = - 1 and s.c = 6 and [s.c = 7 or 1 = 2]")
        for block in (
            self.block(text.format(f" left join s on {within}")),
            self.block(text.format("") + f" and exists (from s where {within})"),
            self.block(text.format("") + f" and not exists (from s where {within})"),
        ):
            self.same(block.units[1].kind == "core", False)
            self.same([unit_mark for _, unit_mark in block.units[1].cols], [3, 4, 5])
            self.same(bound_of(block=block, u=1), ((3, 2), (4, 6), (5, "h")))
            self.same(bound_of(block, 0), ())
            self.same(block.fixed, ((0, 3), (2, "q")))
        # a comparison of it with another column, or with a value on the need's side, binds nothing
        block = self.block("select t.a from t left join s on s.a = t.a and t.b = 1 and s.c <> 2")
        self.same(bound_of(block, 1), ())

    def test_pairs(self):
        within = ("s.a = t.a and t.b = s.a and s.c = t.a and s.a = 2 and s.c < t.b and s.c = t.b + 0 "
                  "and [s.c = t.b or 1 = 2] and s.y = t.x and s.a = t.a")
        for text in (f"select t.a from t left join s on {within}",
                     f"select t.a from t where exists (from s where {within})",
                     f"select t.a from t where not exists (from s where {within})"):
            block = self.block(text)
            # t.a, t.b, t.x bear 0, 1, 2, and s.a, s.c, s.y 3, 4, 5
            self.same(pairs_of(block=block, u=1), ((0, 3), (1, 3), (0, 4), (2, 5), (0, 3)))
            self.same(pairs_of(block, 0), ())
        # a tie of two marks of its need is no pair; maybe is none either
        block = self.block("select t.a from t left join s on t.a = t.b where t.a not in (select p.k from p)")
        self.same([pairs_of(block, u) for u in range(3)], [(), (), ()])
        block = self.block("select t.a from t where t.a in (select p.k from p)")
        self.same(pairs_of(block, 1), ((0, 1),))
        # the need may be a left unit's
        block = self.block("select t.a from t left join s on s.a = t.a left join p on p.k = s.c")
        self.same(pairs_of(block, 2), ((2, 3),))

    def test_row_marks(self):
        block = self.block(
            "select t.x from t left join s on s.a = t.a and s.c = 1, s r where r.a = t.a and r.c = r.a "
            "and exists (from p where p.k = t.b) and t.b not in (select p.k from p)")
        self.same([unit.kind for unit in block.units], ["core", "left", "core", "semi", "anti"])
        self.same([row_marks(block, u) for u in range(5)], [(0, 1, 2), (3, 4), (0,), (), ()])
        self.same(row_marks(block=block, u=1), (3, 4))
        self.same(row_marks(self.block("select 1 as n from p"), 0), ())


if __name__ == "__main__":
    unittest.main()
