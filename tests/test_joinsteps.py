"""[59] Joins and looks."""

import unittest

import helper
from leastplans.ceilings import Ceilings
from leastplans.joinsteps import join_told, look_told, why_join, why_look

SUMS = "select t.a, sum (t.b) as x, count (*) as n from t join s on t.a = s.a group by t.a"
WORDS = ("loop", "hash", "merge")


def as_is(*units):
    return tuple(((u,), 0) for u in units)


class JoinTest(helper.Case):

    def setUp(self):
        self.house = helper.store()
        self.house.retell("t", (("rows", 100), ("fan", ("a",), 6), ("fan", ("b",), 9)))
        self.house.retell("s", (("rows", 40), ("fan", ("a",), 5), ("fan", ("a", "c"), 2), ("dist", "a", 8)))
        self.house.retell("p", (("rows", 20), ("key", ("k",))))

    def sizes(self, text):
        return Ceilings(helper.block(self.house, text))

    def words(self, sizes, left, right, *wanted):
        for word, one in zip(WORDS, wanted):
            with self.subTest(left=left, right=right, word=word):
                self.same(why_join(sizes=sizes, word=word, left=left, right=right), one)

    def told(self, sizes, word, left, right, wanted):
        self.same(why_join(sizes, word, left, right), None)
        self.same(join_told(sizes=sizes, word=word, left=left, right=right), wanted)

    def test_document(self):
        sizes = Ceilings(helper.block(helper.shop(), SUMS))
        left, right = ((((0,), 1),), ()), ((((1,), 1),), ())
        both = (((0,), 1), ((1,), 1))
        self.told(sizes, "hash", left, right, (both, (), 40))
        self.told(sizes, "loop", left, right, (both, (), 120))
        self.told(sizes, "merge", (left[0], (0,)), (right[0], (0,)), (both, (0,), 30))

    def test_core(self):
        # t.a, s.a 0; t.b, p.k 1; s.c 4
        sizes = self.sizes("select t.a from t, s, p where t.a = s.a and t.b = p.k and t.x < s.y and s.c > 1")
        t, s, p = [(as_is(u), ()) for u in range(3)]
        self.words(sizes, t, s, None, None, "order")
        self.words(sizes, s, p, None, "equal", "order")
        self.words(sizes, (as_is(0), (0,)), (as_is(1), (0, 4)), None, None, None)
        self.words(sizes, (as_is(0), (0,)), s, None, None, "order")
        self.words(sizes, t, (as_is(1), (0,)), None, None, "order")
        self.words(sizes, (as_is(0), (1, 0)), (as_is(1), (0,)), None, None, "order")
        self.words(sizes, (as_is(1), (4,)), (as_is(2), (1,)), None, "equal", "order")
        self.words(sizes, t, t, "overlap", "overlap", "overlap")
        self.words(sizes, (as_is(0, 1), ()), (as_is(1, 2), ()), "overlap", "overlap", "overlap")
        self.told(sizes, "loop", (as_is(0), (1, 0)), s, (as_is(0, 1), (1, 0), 100 + 40 + 4000))
        self.told(sizes, "loop", s, (as_is(2), (1,)), (as_is(1, 2), (), 40 + 20 + 800))
        self.told(sizes, "loop", p, s, (as_is(1, 2), (), 20 + 40 + 800))
        # 100 times 5, or 40 times 6
        self.told(sizes, "hash", t, (as_is(1), (4,)), (as_is(0, 1), (), 100 + 80 + 240))
        self.told(sizes, "hash", (as_is(1), (4,)), t, (as_is(0, 1), (4,), 40 + 200 + 240))
        self.told(sizes, "merge", (as_is(0), (0, 1)), (as_is(1), (0, 4)), (as_is(0, 1), (0, 1), 100 + 40 + 240))
        # of several units: t by p's mark 9, and s by it
        left = (as_is(0, 1), (1,))
        self.same((sizes.bag_size(left[0]), sizes.by(left[0], (1,))), (240, 45))
        self.told(sizes, "hash", left, p, (as_is(0, 1, 2), (1,), 240 + 40 + 240))
        self.told(sizes, "merge", left, (as_is(2), (1,)), (as_is(0, 1, 2), (1,), 240 + 20 + 240))
        self.told(sizes, "hash", p, left, (as_is(0, 1, 2), (), 20 + 480 + 240))

    def test_several_pairs(self):
        """A hash takes all pairs, a merge that of the first marks alone."""
        sizes = self.sizes("select t.a from t, s where t.a = s.a and t.b = s.c")
        self.told(sizes, "hash", (as_is(0), (0,)), (as_is(1), (0, 1)), (as_is(0, 1), (0,), 100 + 80 + 200))
        self.told(sizes, "merge", (as_is(0), (0,)), (as_is(1), (0, 1)), (as_is(0, 1), (0,), 100 + 40 + 240))
        self.told(sizes, "merge", (as_is(0), (1,)), (as_is(1), (1,)), (as_is(0, 1), (1,), 100 + 40 + 360))

    def test_squeezed(self):
        sizes = self.sizes("select t.b, sum (s.c) as n from t, s, p where t.a = s.a and t.b = p.k group by t.b")
        t, s = ((((0,), 1),), ()), ((((1,), 1),), ())
        self.same([sizes.bag_size(one[0]) for one in (t, s)], [100, 8])
        self.told(sizes, "hash", t, s, ((((0,), 1), ((1,), 1)), (), 100 + 16 + 48))
        self.told(sizes, "loop", (as_is(1), ()), (((((0, 2), 1),)), ()), ((((0, 2), 1), ((1,), 0)), (), 40 + 100 + 4000))
        self.words(sizes, ((((0, 1), 1),), ()), ((((1, 2), 1),), ()), *["overlap"] * 3)
        # squeezed together s.a is kept no more
        self.words(sizes, ((((0, 1), 1),), ()), (as_is(2), ()), None, None, "order")
        # a mark that is squeezed away makes no pair
        sizes = self.sizes("select t.b, sum (p.k) as n from t, s, p where t.a = s.a group by t.b")
        self.words(sizes, ((((0, 1), 1),), ()), (as_is(2), ()), None, "equal", "order")

    def test_sides(self):
        # t.a 0, t.b 1; s.a 3, s.c 4; p.k 6
        sizes = self.sizes("select t.x from t left join s on s.a = t.a and s.c = t.b left join p on p.k > s.c")
        t = (as_is(0), (1,))
        side, other = (("side", 1), (4,)), (("side", 2), (6,))
        self.words(sizes, side, t, *["side"] * 3)
        self.words(sizes, side, side, *["side"] * 3)
        self.words(sizes, t, side, None, None, None)
        self.words(sizes, (as_is(0), (0,)), side, None, None, "order")
        self.words(sizes, (as_is(0), (0,)), (("side", 1), (3,)), None, None, None)
        self.words(sizes, t, other, *["need"] * 3)
        both = (as_is(0, 1), ())
        self.words(sizes, both, other, None, "equal", "order")
        self.words(sizes, both, side, *["overlap"] * 3)
        self.words(sizes, (as_is(0, 1, 2), ()), other, *["overlap"] * 3)
        self.told(sizes, "loop", t, side, (as_is(0, 1), (1,), 100 + 40 + 4000))
        # 100 times 2, or 40 times 6
        self.told(sizes, "hash", t, side, (as_is(0, 1), (1,), 100 + 80 + 200))
        # by the pair of t.b and s.c: 100 times 40, or 40 times 9
        self.told(sizes, "merge", t, side, (as_is(0, 1), (1,), 100 + 40 + 360))
        self.told(sizes, "loop", both, other, (as_is(0, 1, 2), (), 200 + 20 + 4000))
        # the left plan may be squeezed
        sizes = self.sizes("select t.a, sum (s.c) as n from t left join s on s.a = t.a group by t.a")
        self.told(sizes, "hash", ((((0,), 1),), ()), (("side", 1), ()), ((((0,), 1), ((1,), 0)), (), 100 + 80 + 40))

    def test_semi(self):
        for text in ("select t.x from t where {} exists (from s where s.a = t.a and s.c = 2)".format(word)
                     for word in ("", "not")):
            sizes = self.sizes(text)
            self.words(sizes, (as_is(0), ()), (("side", 1), ()), None, None, "order")
            # the bound mark counts for the size of the side
            self.same(sizes.bag_size(("side", 1)), 40)
            self.told(sizes, "hash", (as_is(0), (0,)), (("side", 1), ()), (as_is(0, 1), (0,), 100 + 80 + 200))

    def test_words_in_sequence(self):
        sizes = self.sizes("select t.x from t left join s on s.a > t.a left join p on p.k > s.c")
        side = ("side", 1)
        self.words(sizes, (side, ()), (side, ()), *["side"] * 3)
        self.words(sizes, (as_is(0, 1, 2), ()), (("side", 2), ()), *["overlap"] * 3)
        self.words(sizes, (as_is(0), ()), (("side", 2), ()), *["need"] * 3)
        self.words(sizes, (as_is(0), ()), (side, ()), None, "equal", "order")


class LookTest(helper.Case):

    def setUp(self):
        JoinTest.setUp(self)
        self.house.add_index("s", "byac", ("a", "c", "y"))
        self.house.add_index("s", "byc", ("c",))
        self.house.add_index("p", "byk", ("k",))

    def sizes(self, text):
        return Ceilings(helper.block(self.house, text))

    def check(self, sizes, left, u, ixname, many, wanted):
        with self.subTest(left=left, u=u, ixname=ixname, many=many):
            if isinstance(wanted, str):
                self.same(why_look(sizes, left, u, ixname, many), wanted)
            else:
                self.same(why_look(sizes=sizes, left=left, u=u, ixname=ixname, many=many), None)
                self.same(look_told(sizes=sizes, left=left, u=u, ixname=ixname, many=many), wanted)

    def test_core(self):
        sizes = self.sizes("select t.a from t, s, p where t.a = s.a and s.c = 7 and p.k = s.c + 1 and t.x < s.y")
        t = (as_is(0), (0,))
        self.check(sizes, t, 1, "byac", 1, (as_is(0, 1), (0,), 100 + 100 * (6 + 1 + 10)))
        self.check(sizes, t, 1, "byac", 2, (as_is(0, 1), (0,), 100 + 100 * (6 + 1 + 4)))
        self.check(sizes, t, 1, "byc", 1, (as_is(0, 1), (0,), 100 + 100 * (6 + 1 + 80)))
        self.check(sizes, t, 1, "byac", 3, "equal")
        self.check(sizes, (as_is(2), ()), 1, "byac", 1, "equal")
        self.check(sizes, (as_is(2), ()), 1, "byc", 1, (as_is(1, 2), (), 20 + 20 * 87))
        self.check(sizes, t, 2, "byk", 1, "equal")
        self.check(sizes, (as_is(0, 1), (0,)), 2, "byk", 1, "equal")
        for many in (0, 4, 10 ** 40):
            self.check(sizes, t, 1, "byac", many, "length")
        self.check(sizes, t, 1, "byk", 1, "index")
        self.check(sizes, t, 1, "", 0, "index")
        self.check(sizes, t, 0, "byac", 1, "overlap")
        self.check(sizes, (as_is(0, 1), ()), 1, "none", 0, "overlap")
        self.check(sizes, t, 3, "byac", 1, "unit")

    def test_seen(self):
        """What a squeezed part does not keep is not seen."""
        sizes = self.sizes("select count (*) as n from t, s where t.a < 3 and t.b = s.c and 1 = 1")
        self.check(sizes, ((((0,), 1),), ()), 1, "byac", 1, "equal")
        self.check(sizes, ((((0,), 1),), ()), 1, "byc", 1, ((((0,), 1), ((1,), 0)), (), 100 + 100 * 87))
        sizes = self.sizes("select count (*) as n from t, s, p where t.a = p.k and t.b = s.c")
        self.check(sizes, ((((0, 2), 1),), ()), 1, "byac", 1, "equal")
        sizes = self.sizes("select count (*) as n from t, s, p where t.b = s.c and t.a = p.k and p.k = s.a")
        self.check(sizes, ((((0, 2), 1),), ()), 1, "byac", 2, ((((0, 2), 1), ((1,), 0)), (), 100 + 100 * 11))

    def test_attachments(self):
        cond = "s.a = t.a and s.c = 4 and s.y > t.x"
        for text in (f"select t.b from t left join s on {cond}", f"select t.b from t where exists (from s where {cond})",
                     f"select t.b from t where not exists (from s where {cond})"):
            sizes = self.sizes(text)
            t = (as_is(0), (1,))
            self.check(sizes, t, 1, "byac", 1, (as_is(0, 1), (1,), 100 + 100 * 17))
            self.check(sizes, t, 1, "byac", 2, (as_is(0, 1), (1,), 100 + 100 * 11))
            self.check(sizes, t, 1, "byc", 1, (as_is(0, 1), (1,), 100 + 100 * 87))
            self.check(sizes, t, 1, "byac", 3, "equal")
            self.check(sizes, (("side", 1), ()), 1, "byac", 1, "side")
        # the need; the block's fixed marks do not tell an attachment's column
        sizes = self.sizes("select t.b from t left join s on s.a = t.a left join p on p.k > s.c where t.a = 1")
        self.check(sizes, (as_is(0), ()), 2, "byk", 1, "need")
        self.check(sizes, (as_is(0, 1), ()), 2, "byk", 1, "equal")
        self.check(sizes, (as_is(0), ()), 1, "byac", 1, (as_is(0, 1), (), 6 + 6 * 17))
        sizes = self.sizes("select t.b from t left join p on p.k > t.a where t.a = 1")
        self.check(sizes, (as_is(0), ()), 1, "byk", 1, "equal")

    def test_words_in_sequence(self):
        text = ("select t.b from t left join s on s.a > t.a left join p on p.k > s.c "
                "left join (select s.a from s limit 1) u on u.a > s.c")
        sizes = self.sizes(text)
        t, side = (as_is(0), ()), (("side", 1), ())
        for left, u, ixname, many, word in [
            (side, 9, "none", 0, "side"), (t, 9, "none", 0, "unit"), (t, 0, "none", 0, "overlap"),
            (t, 3, "none", 0, "source"), (t, 2, "none", 0, "index"), (t, 2, "byk", 0, "length"),
            (t, 2, "byk", 1, "need"), (t, 1, "byac", 1, "equal"), ((as_is(0, 1), ()), 1, "byac", 0, "overlap"),
        ]:
            self.check(sizes, left, u, ixname, many, word)


if __name__ == "__main__":
    unittest.main()
