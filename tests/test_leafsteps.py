"""[58] Steps that read the source of a unit."""

import unittest

import helper
from leastplans.ceilings import Ceilings
from leastplans.leafsteps import inner_told, leaf_told, why_leaf


class LeafTest(helper.Case):

    def setUp(self):
        self.house = helper.store()
        self.house.retell("t", (("rows", 100), ("fan", ("b",), 6), ("fan", ("b", "x"), 2), ("lies", ("x", "a"))))
        self.house.retell("s", (("lies", ("a", "c")), ("rows", 40), ("fan", ("a",), 5), ("key", ("y",))))
        self.house.add_index("t", "byb", ("b", "x"))
        self.house.add_index("t", "byall", ("b", "x", "a"))
        self.house.add_index("s", "bya", ("a", "y"))
        self.house.add_index("s", "byc", ("c",))

    def sizes(self, text):
        return Ceilings(helper.block(self.house, text))

    def check(self, text, *cases):
        """Each case is a step, and its word, or what is told of it."""
        sizes = self.sizes(text)
        for step, wanted in cases:
            with self.subTest(text=text, step=step):
                if isinstance(wanted, str):
                    self.same(why_leaf(sizes, step), wanted)
                else:
                    self.same(why_leaf(sizes=sizes, step=step), None)
                    self.same(leaf_told(sizes=sizes, step=step), wanted)

    def test_core(self):
        u0 = (((0,), 0),)
        # t.a 0, t.b 1, t.x 2
        self.check(
            "select t.a, t.b, t.x from t where t.b = 3",
            (("scan", 0), (u0, (2, 0), 100)),
            (("walk", 0, "byb"), (u0, (2,), 200)),
            (("walk", 0, "byall"), (u0, (2, 0), 200)),
            (("seek", 0, "byb", 1), (u0, (2,), 7 + 1 + 12)),
            (("seek", 0, "byall", 1), (u0, (2, 0), 7 + 1 + 12)),
            (("seek", 0, "byb", 2), "equal"), (("seek", 0, "byall", 3), "equal"),
            (("seek", 0, "byb", 3), "length"), (("seek", 0, "byb", 0), "length"), (("seek", 0, "byall", 10 ** 59), "length"),
            (("seek", 0, "bya", 1), "index"), (("walk", 0, "bya"), "index"), (("walk", 0, ""), "index"),
            (("walk", 0, "byb "), "index"),
            (("scan", 1), "unit"), (("walk", 1, "byb"), "unit"), (("seek", 10 ** 59, "none", 0), "unit"))
        # several fixed; the words in their sequence
        self.check(
            "select t.a from t where t.b = 3 and t.x = 'a'",
            (("seek", 0, "byb", 2), (u0, (), 7 + 1 + 4)), (("seek", 0, "byall", 2), (u0, (0,), 7 + 1 + 4)),
            (("scan", 0), (u0, (0,), 100)), (("seek", 0, "none", 9), "index"), (("seek", 0, "byall", 4), "length"))
        # columns without a mark, or with one that is not fixed
        self.check(
            "select t.a from t, s where t.b = s.c",
            (("scan", 0), (u0, (), 100)), (("walk", 0, "byb"), (u0, (1,), 200)), (("walk", 0, "byall"), (u0, (1,), 200)),
            (("seek", 0, "byb", 1), "equal"), (("scan", 1), ((((1,), 0),), (), 40)),
            (("walk", 1, "byc"), ((((1,), 0),), (1,), 80)))

    def test_one_mark_twice(self):
        self.check(
            "select t.a, t.x from t where t.a = t.b",
            (("walk", 0, "byall"), ((((0,), 0),), (0, 2), 200)))
        self.house.add_index("t", "bya", ("a", "b", "x"))
        self.check(
            "select t.a, t.x from t where t.a = t.b",
            (("walk", 0, "bya"), ((((0,), 0),), (0, 2), 200)))

    def test_attachments(self):
        cond = "s.a = 3 and s.c = t.b and s.y < t.x"
        for text in (f"select t.a from t left join s on {cond}", f"select t.a from t where exists (from s where {cond})",
                     f"select t.a from t where not exists (from s where {cond})"):
            sizes = self.sizes(text)
            a, c, y = [mark for _, mark in sizes.block.units[1].cols]
            self.check(
                text,
                (("scan", 1), (("side", 1), (c,), 40)),
                (("walk", 1, "bya"), (("side", 1), (y,), 80)),
                (("seek", 1, "bya", 1), (("side", 1), (y,), 6 + 1 + 10)),
                (("seek", 1, "bya", 2), "equal"), (("seek", 1, "byc", 1), "equal"),
                (("walk", 1, "byc"), (("side", 1), (c,), 80)))
        # a mark of the block that is fixed is none of the side's
        self.check("select t.a from t left join s on s.c = t.b where t.b = 3",
                   (("seek", 1, "byc", 1), "equal"), (("seek", 0, "byb", 1), ((((0,), 0),), (), 20)))

    def test_sizes(self):
        for rows, figures in ((0, 0), (1, 1), (7, 3), (8, 4)):
            self.house.retell("t", (("rows", rows),))
            self.check("select t.a from t where t.b = 3", (("scan", 0), ((((0,), 0),), (), rows)),
                       (("walk", 0, "byb"), ((((0,), 0),), (), 2 * rows)),
                       (("seek", 0, "byb", 1), ((((0,), 0),), (), figures + 1 + 2 * rows)))

    def test_blocks(self):
        text = ("select u.a, u.b from (select t.x, t.b, t.a, t.b as e, count (*) as n from t group by t.a, t.b, t.x) u{} "
                "join s on s.a = u.a and u.x = 'a' left join (select s.a, s.c, s.y from s limit 9) w "
                "on w.a = 3 and w.c = u.a and w.y > u.x").format("")
        sizes = self.sizes(text)
        # u.x 0, fixed; u.b 1; u.a 2, s.a; w.a 4, bound; w.c 5; w.y 6
        self.same([unit.cols for unit in sizes.block.units], [
            ((0, 0), (1, 1), (2, 2)), ((0, 2),), ((0, 4), (1, 5), (2, 6))])
        for step in (("scan", 0), ("walk", 0, "byb"), ("seek", 0, "byb", 1), ("scan", 2)):
            self.same(why_leaf(sizes, step), "source")
        self.same(why_leaf(sizes, ("scan", 3)), "unit")
        u0 = (((0,), 0),)
        for order, wanted in [((), ()), ((0, 1, 2), (1, 2)), ((2, 0, 1), (2, 1)), ((1, 3, 2), (1,)), ((4,), ()), ((0,), ())]:
            self.same(inner_told(sizes=sizes, u=0, order=order), (u0, wanted, 100))
        for order, wanted in [((), ()), ((0, 1, 2), (5, 6)), ((1,), (5,)), ((2, 0), (6,))]:
            self.same(inner_told(sizes, 2, order), (("side", 2), wanted, 9))

    def test_words_in_sequence(self):
        """The first word that applies, where later ones would, too."""
        sizes = self.sizes("select t.a from t, (select count (*) as n from s) u")
        for step, word in [
            (("seek", 2, "none", 0), "unit"), (("seek", 1, "none", 0), "source"), (("seek", 0, "none", 0), "index"),
            (("seek", 0, "byb", 0), "length"), (("seek", 0, "byb", 1), "equal"), (("walk", 1, "none"), "source"),
        ]:
            self.same(why_leaf(sizes, step), word)


if __name__ == "__main__":
    unittest.main()
