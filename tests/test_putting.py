"""[39] Questions with names put in, and what they stand on."""

import copy
import random
import unittest

import helper
from leastplans.errors import NoName, TooMuch
from leastplans.houses import House
from leastplans.meanings import meaning
from leastplans.putting import put_in, used
from leastplans.questionreading import read_question
from leastplans.views import make_view

PLAIN = "select t.a from t"


def source(text):
    """What put_in makes of the first source of a question."""
    return put_in(helper.store(), read_question(text))[4][0][1]


def named_again(thing):
    """The same with tables told by name."""
    if isinstance(thing, tuple):
        if len(thing) == 2 and thing[0] == "table":
            return ("named", thing[1])
        return tuple(map(named_again, thing))
    return thing


class PutInTest(helper.Case):

    def put(self, text, house=None):
        return put_in(house or helper.store(), read_question(text))

    def test_tables(self):
        self.same(
            self.put("select t.a from t order by a limit 3"),
            ("question", (), False, ((("col", "t", "a"), "a"),),
             (("from", ("table", "t"), "t", None),), None, (), None, (("a", "asc"),), 3))

    def test_views(self):
        inner = self.put("select t.a, t.x as w from t where t.b > 0")
        self.same(source("select v.a from v"), inner)
        house = helper.store()
        make_view(house, "w", "select v.a from v where exists (from v z where z.a = v.a)")
        found = self.put("select w.a from w left join v x on w.a = x.a", house)
        self.same([one[1] for one in found[4]], [
            self.put("select v.a from v where exists (from v z where z.a = v.a)"), inner])
        self.same(found[4][0][1][4][0][1], inner)
        self.same(found[4][0][1][5][1], (("from", inner, "z", None),))
        make_view(house, "y", "select w.a from w")
        found = self.put("select y.a from y", house)
        self.same(found[4][0][1][4][0][1][4][0][1], inner)

    def test_with(self):
        told = "with k as (select t.b from t) "
        inner = self.put("select t.b from t")
        found = self.put(told + "select k.b from k, k m join t on t.a = k.b")
        self.same(found[1], ())
        self.same([one[1] for one in found[4]], [inner, inner, ("table", "t")])
        # an earlier with, and a with that hides a name of the house, but not in itself
        found = self.put(
            "with t as (select t.b from t), v as (select t.b from t) select t.b, v.b as c from t, v")
        self.same([one[1] for one in found[4]],
                  [inner, self.put("select t.b from (select t.b from t) t")])
        # nothing of a with that is never named is left
        self.same(self.put("with k as (select t.b from t) " + PLAIN), self.put(PLAIN))

    def test_with_within(self):
        told = "with k as (select t.b from t) "
        inner = self.put("select t.b from t")
        found = self.put(
            told + "select t.a from t where exists (from k where k.b = t.a) and t.a in (select k.b from k)")
        self.same(found[5][1][1][0][1], inner)
        self.same(found[5][2][2][4][0][1], inner)
        # an inner with goes ahead of the outer one, and stands for nothing outside
        found = self.put(
            told + "select k.b from k, (with k as (select s.c from s) select k.c from k) m")
        self.same(found[4][0][1], inner)
        self.same(found[4][1][1], self.put("select k.c from (select s.c from s) k"))
        # within a view, names mean those of the house
        house = helper.store()
        make_view(house, "w", "select s.a from s")
        found = self.put("with s as (select t.a, t.b as c from t) select w.a from w, s", house)
        self.same(found[4][0][1], self.put("select s.a from s"))

    def test_where_it_goes(self):
        """Within on, exists, in, not, or, and: the tree stays as it is but for the names."""
        house = helper.shop()
        text = (
            "select t.a from t left join s on t.a = s.a and t.b = 1 or s.c = 2 "
            "where [t.a = 1 and [t.b = 2 and t.a = 3]] and not exists (from s r join (select t.a from t) q "
            "on q.a = r.a where r.a in (select s.c from s)) and t.b not in (select t.a from t) "
            "group by t.a having count (*) > 1")
        read = read_question(text)
        found = self.put(text, house)

        self.same(named_again(found), read)

    def test_no_name(self):
        cases = [
            ("select x.a from x", "x"),
            ("select x.a from x, y", "x"),
            ("with k as (select z.a from z) select x.a from x", "z"),
            ("with k as (select z.a from z) select t.a from t", "z"),
            ("with k as (select t.a from k) select t.a from t", "k"),
            ("with k as (select t.a from t, m), m as (select t.a from t) select t.a from t", "m"),
            ("select t.a from t join y on exists (from z), x", "y"),
            ("select t.a from t join s on exists (from z) join x on 1 = 1", "z"),
            ("select t.a from (select q.a from q where exists (from z)) t, x", "q"),
            ("select t.a from t where exists (from s join z on 1 in (select y.a from y)) "
             "and 1 in (select x.a from x)", "z"),
            ("select t.a from t where 1 in (select t.a from t where 1 in (select y.a from y))", "y"),
            ("select t.a from t where 1 = 1 having 2 in (select y.a from y)", "y"),
            ("select t.a from t where 1 in (with k as (select t.a from t) select k.a from k) "
             "and exists (from k)", "k"),
        ]
        for text, name in cases:
            with self.subTest(text=text):
                for call in (put_in, used):
                    self.refused(NoName(name), call, helper.shop(), read_question(text))

    def many(self, sources):
        return "select u0.a from " + ", ".join(f"{what} u{at}" for at, what in enumerate(sources))

    def test_too_much(self):
        q = f"({PLAIN})"
        exists = "exists (from s)"
        within = f"1 in ({PLAIN})"
        let = [
            self.many([q] * 7), self.many(["t"] * 8),
            self.many(["v"] * 7),
            "with k as (select t.a from t) " + self.many(["k"] * 7),
            "with k as (select v.a from v) " + self.many(["k"] * 3 + ["t"] * 5),
            f"select t.a from t where {' and '.join([exists] * 7)}",
            f"select t.a from t where {' and '.join([within] * 7)}",
            f"select t.a from t where exists (from t u where {' and '.join([exists] * 6)})",
            f"select t.a from t where {' and '.join([exists, within] * 3)} and not exists (from s)",
            f"select t.a from t where exists (from {q} u0, {q} u1, v) and {within} and {exists} and {exists}",
            "with k as (select v.a from v, v w) " + PLAIN,
        ]
        much = [
            self.many([q] * 8), self.many(["v"] * 8),
            "with k as (select t.a from t) " + self.many(["k"] * 8),
            "with k as (select v.a from v) " + self.many(["k"] * 4),
            f"select t.a from t where {' and '.join([exists] * 8)}",
            f"select t.a from t where {' and '.join([within] * 8)}",
            f"select t.a from t where exists (from t u where {' and '.join([exists] * 7)})",
            f"select t.a from t where {' and '.join([exists, within] * 4)}",
            f"select t.a from t where exists (from {q} u0, {q} u1, v, v w) and {within} and {exists} and {exists}",
            f"select t.a from t join v on {' and '.join([exists] * 7)}",
        ]
        for text in let:
            with self.subTest(text=text):
                self.put(text)
        for text in much:
            with self.subTest(text=text):
                self.refused(TooMuch("blocks"), self.put, text)
        # names go ahead
        self.refused(NoName("z"), self.put, "select v.a from v, (" + self.many(["v"] * 7 + ["z"]) + ") u")
        used(helper.store(), read_question(much[1]))

    def test_very_much(self):
        """Names that tell far more questions than can be built are refused at once."""
        house = helper.store()
        for number in range(8):
            below = f"w{number - 1}" if number else "t"
            house.lay_view(f"w{number}", read_question(self.many([below] * 8)), (below,))
        self.refused(TooMuch("blocks"), self.put, "select w7.a from w7", house)
        self.same([name for name, _ in used(house, read_question("select w7.a from w7"))],
                  ["t"] + [f"w{number}" for number in range(8)])

    def test_deep(self):
        """Views in views, each in the depth of a long where."""
        house = helper.shop()
        ones = " and ".join(["1 = 1"] * 38)
        make_view(house, "w0", PLAIN)
        for number in range(1, 4):
            make_view(house, f"w{number}",
                      f"select t.a from t where t.a in (select w.a from w{number - 1} w) and {ones}")
        found = self.put("select w.a from w3 w", house)[4][0][1]
        for _ in range(3):
            cond = found[5]
            while cond[0] == "and":
                cond = cond[1]
            found = cond[2][4][0][1]
        self.same(found, self.put(PLAIN))
        self.refused(TooMuch("blocks"), self.put, "select w.a from w3 w, w0 u", house)

    def test_put_in_means_the_same(self):
        """A question with names put in means what it meant: its tables are named again."""
        house = helper.store()
        helper.fill(house, random.Random(5), 5)

        for question in helper.chance_questions(39, 150):
            before = copy.deepcopy(question)
            try:
                found = put_in(house=house, question=question)
            except TooMuch:
                continue
            self.same(question, before)
            self.same(meaning(house, named_again(found)), meaning(house, question))


class UsedTest(helper.Case):

    def used(self, house, text):
        return used(house=house, question=read_question(text))

    def test_document(self):
        house = helper.shop()
        make_view(house, "v", "select t.a from t")
        self.same(self.used(house, "select v.a from v"), (("t", 1), ("v", 3)))

    def test_names(self):
        house = helper.shop()
        make_view(house, "v", "select t.a from t")
        make_view(house, "w", "select v.a from v where exists (from s where s.a = v.a)")
        self.same(self.used(house, "select t.a from t"), (("t", 1),))
        self.same(self.used(house, "select w.a from w"), (("s", 2), ("t", 1), ("v", 3), ("w", 4)))
        self.same(self.used(house, "select s.a from s, s r, t"), (("s", 2), ("t", 1)))
        self.same(self.used(house, "with k as (select v.a from v) select s.a from s"),
                  (("s", 2), ("t", 1), ("v", 3)))
        self.same(self.used(house, "with v as (select s.a from s) select v.a from v"), (("s", 2),))
        self.same(self.used(house, "select s.a from s where s.a in (select v.a from v)"),
                  (("s", 2), ("t", 1), ("v", 3)))

    def test_editions(self):
        house = helper.shop()
        make_view(house, "v", "select t.a from t")
        text = "select v.a from v"
        house.put("t", (1, 2))
        house.take("t", (1, 2))
        self.same(self.used(house, text), (("t", 1), ("v", 3)))
        house.add_index("t", "bya", ("a",))
        self.same(self.used(house, text), (("t", 4), ("v", 3)))
        house.retell("s", (("rows", 5),))
        self.same(self.used(house, text), (("t", 4), ("v", 3)))
        house.retell("t", (("rows", 5),))
        house.drop("v")
        self.refused(NoName("v"), self.used, house, text)
        make_view(house, "v", "select s.a from s")
        self.same(self.used(house, text), (("s", 5), ("v", 7)))
        house.drop("t")
        self.refused(NoName("t"), self.used, house, "select v.a from v, t")
        house.add_table("t", helper.number_columns("ab", ""), (("rows", 1),))
        self.same(self.used(house, "select v.a from v, t"), (("s", 5), ("t", 8), ("v", 7)))

    def test_empty_house(self):
        self.refused(NoName("t"), self.used, House(), "select t.a from t")
        self.refused(NoName("t"), put_in, House(), read_question("select t.a from t"))


if __name__ == "__main__":
    unittest.main()
