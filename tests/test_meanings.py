"""[35] [36] [37] [38] what questions mean."""

import random
import unittest

import helper
from leastplans.checking import checked
from leastplans.exprreading import read_expr
from leastplans.houses import House
from leastplans.meanings import loops, meaning, names_used, truth_of, value_of
from leastplans.ordering import alike_bags
from leastplans.questionreading import read_cond, read_question
from leastplans.showing import shown
from leastplans.views import make_view

ENV = {"t": {"a": 1, "b": None, "x": "q"}, "u": {"a": -7, "y": None}}
BIG = 10 ** 9 - 1


def sources_of(text):
    return read_question(f"select 1 as one from {text}")[4]


def where_of(text):
    return read_cond(text)


def small():
    """Tables t (a, b free) and s (a free, c free), rows as they lie."""
    house = House()
    house.add_table("t", helper.number_columns("ab", "b"), (("rows", 100),))
    house.add_table("s", helper.number_columns("ac", "ac"), (("rows", 100),))
    house.add_table("none", helper.number_columns("k", "k"), (("rows", 0),))
    for row in ((2, 5), (1, None), (2, 6), (3, None)):
        house.put("t", row)
    for row in ((2, 9), (None, 8), (1, 7), (2, None)):
        house.put("s", row)
    return house


class ValuesTest(helper.Case):

    def test_value_of(self):
        self.every((
            ("7", 7), ("''", ""), ("'q r'", "q r"), ("t.a", 1), ("t.b", None), ("t.x", "q"), ("u.a", -7),
            ("1 + 2", 3), ("1 - 2", -1), ("2 * 3", 6), ("- 2", -2), ("- - 2", 2), ("t.a + u.a", -6), ("t.a - u.a", 8),
            ("u.a * u.a", 49), ("- u.a", 7), ("1 + t.b", None), ("t.b + 1", None), ("t.b - t.b", None), ("0 * t.b", None),
            ("- t.b", None), ("1 + (2 - 3 * (4 + t.b))", None), ("2 - 1 - 1", 0), ("2 - (1 - 1)", 2),
            ("999999999 * 999999999 * 999999999", 999999999 * 999999999 * 999999999),
        ), lambda text, told: self.same(value_of(expr=read_expr(text), env=ENV), told))
        self.same(value_of(read_expr("1"), {}), 1)
        self.same(ENV, {"t": {"a": 1, "b": None, "x": "q"}, "u": {"a": -7, "y": None}})

    def test_truth_of(self):
        house = small()
        self.every((
            ("t.a = 1", True), ("t.a <> 1", False), ("t.a < 1", False), ("t.a <= 1", True), ("t.a > u.a", True),
            ("t.a >= 2", False), ("t.x = 'q'", True), ("t.x < 'r'", True), ("t.b = 1", None), ("t.b = t.b", None),
            ("1 <> t.b", None), ("t.b is null", True), ("t.a is null", False), ("t.b + 1 is null", True),
            ("t.b is not null", False), ("not t.b = 1", None), ("maybe t.b = 1", True), ("maybe t.a = 2", False),
            ("maybe t.a = 1", True), ("not maybe t.b = 1", False), ("maybe not t.b = 1", True),
            ("t.b = 1 and t.a = 1", None), ("t.b = 1 and t.a = 2", False), ("t.a = 2 and t.b = 1", False),
            ("t.a = 1 and t.a = 1", True), ("t.b = 1 or t.a = 1", True), ("t.a = 2 or t.b = 1", None),
            ("t.a = 2 or t.a = 3", False), ("not [t.a = 1 and t.b = 1]", None), ("not [t.a = 2 and t.b = 1]", True),
            ("exists (from s where s.a = t.a)", True), ("exists (from s where s.a = 3)", False),
            ("not exists (from s where s.a = t.b)", True), ("exists (from s)", True), ("exists (from none)", False),
            ("exists (from none n where n.k is null)", False), ("exists (from none n left join s on 1 = 1)", False),
            ("exists (from s left join none on 1 = 1 where none.k is null)", True),
            ("exists (from s t where t.c = 8)", True), ("exists (from t s where s.b = 8)", False),
            ("t.a in (select s.a from s)", True), ("3 in (select s.a from s)", None), ("t.a not in (select s.a from s)", False),
            ("3 not in (select s.a from s)", None), ("3 in (select s.a from s where s.a is not null)", False),
            ("3 not in (select s.a from s where s.a is not null)", True), ("t.b in (select s.a from s)", None),
            ("t.b in (select none.k from none)", False), ("t.b not in (select none.k from none)", True),
            ("1 in (select s.a from s limit 1)", None), ("1 in (select s.a from s order by a desc limit 1)", False),
            ("2 in (select s.a from s order by a desc limit 1)", True), ("1 in (select s.a from s limit 0)", False),
        ), lambda text, told: self.same(truth_of(house=house, cond=where_of(text), env=ENV), told))


class LoopsTest(helper.Case):

    def check(self, text, told, env=None):
        house = small()
        found = loops(house=house, sources=sources_of(text), env=env or {})
        self.same(sorted_keys(found), sorted_keys(told))

    def test_one_source(self):
        self.check("t", [{"t": {"a": a, "b": b}} for a, b in ((2, 5), (1, None), (2, 6), (3, None))])
        self.check("t u", [{"u": {"a": a, "b": b}} for a, b in ((2, 5), (1, None), (2, 6), (3, None))])
        self.check("none", [])
        self.check("(select t.b as y from t limit 2) q", [{"q": {"y": None}}, {"q": {"y": None}}])

    def test_sequence(self):
        def pairs(text):
            return [(one["t"]["a"], one["t"]["b"], one["s"]["a"], one["s"]["c"])
                    for one in loops(small(), sources_of(text), {})]
        t, s = [(2, 5), (1, None), (2, 6), (3, None)], [(2, 9), (None, 8), (1, 7), (2, None)]
        self.same(pairs("t, s"), [one + other for one in t for other in s])
        self.same(pairs("s, t"), [other + one for one in s for other in t])
        joined = [(2, 5, 2, 9), (2, 5, 2, None), (1, None, 1, 7), (2, 6, 2, 9), (2, 6, 2, None)]
        self.same(pairs("t join s on t.a = s.a"), joined)
        self.same(pairs("t left join s on t.a = s.a"), joined + [(3, None, None, None)])
        self.same(pairs("t left join s on t.a = s.a and s.c is null"),
                  [(2, 5, 2, None), (1, None, None, None), (2, 6, 2, None), (3, None, None, None)])
        self.same(pairs("t left join s on t.b = s.a"), [one + (None, None) for one in t])
        self.same(pairs("s left join t on t.a = s.a"),
                  [(2, 5, 2, 9), (2, 6, 2, 9), (None, None, None, 8), (1, None, 1, 7), (2, 5, 2, None), (2, 6, 2, None)])

    def test_left_of_no_rows(self):
        self.check("s left join none on 1 = 1",
                   [{"s": {"a": a, "c": c}, "none": {"k": None}} for a, c in ((2, 9), (None, 8), (1, 7), (2, None))])
        self.check("none left join s on 1 = 1", [])
        self.check("s left join (select none.k, 'x' as z from none) n on 1 = 1 join t on t.a = s.a and n.z is null and s.c = 9",
                   [{"s": {"a": 2, "c": 9}, "n": {"k": None, "z": None}, "t": {"a": 2, "b": b}} for b in (5, 6)])

    def test_with_an_environment(self):
        env = {"t": {"a": 0, "b": 0}, "o": {"z": 1}}
        self.check("none", [], env)
        self.check("t", [{"o": {"z": 1}, "t": {"a": a, "b": b}} for a, b in ((2, 5), (1, None), (2, 6), (3, None))], env)
        self.check("s join t u on s.a = u.a and u.b = 5",
                   [{"t": {"a": 0, "b": 0}, "o": {"z": 1}, "s": {"a": 2, "c": c}, "u": {"a": 2, "b": 5}} for c in (9, None)], env)

    def test_what_is_handed_in_stays_and_what_is_returned_is_new(self):
        house = small()
        env = {"o": {"z": 1}}
        sources = sources_of("s, s u left join none on u.c = none.k")
        found = loops(house, sources, env)
        wanted = loops(house, sources, env)
        inner = [one[alias] for one in found for alias in one]
        self.assertEqual(len({id(one) for one in inner + found}), len(inner) + len(found))
        for one in found:
            self.assertIsNot(one["o"], env["o"])
            for alias in list(one):
                one[alias].clear()
            one.clear()
        self.same(env, {"o": {"z": 1}})
        self.same(loops(house, sources, env), wanted)


def sorted_keys(environments):
    return [{alias: dict(sorted(one[alias].items())) for alias in sorted(one)} for one in environments]


class MeaningTest(helper.Case):

    def means(self, text, *rows, house=None):
        house = house or small()
        question = read_question(text)
        checked(house, question)
        self.same(meaning(house=house, question=question), list(rows))

    def test_example(self):
        house = helper.shop(True)
        self.means("select t.b, s.c from t left join s on t.a = s.a and t.b = 7",
                   (5, None), (7, 0), (7, 0), (None, None), house=house)
        self.means("select t.a, sum (t.b) as x, count (*) as n from t join s on t.a = s.a group by t.a",
                   (1, 24, 4), house=house)

    def test_not_in_of_the_examples(self):
        text = "select t.b from t where t.b not in (select s.c from s)"
        house = helper.shop()
        for row in ((1, 5), (1, 7), (2, None)):
            house.put("t", row)
        self.means(text, (5,), (7,), (None,), house=house)
        house.put("s", (1, 5))
        self.means(text, (7,), house=house)
        house.put("s", (1, None))
        self.means(text, house=house)

    def test_rows_in_sequence(self):
        self.means("select t.a, t.b from t", (2, 5), (1, None), (2, 6), (3, None))
        self.means("select t.b + 1 as x, t.a * t.a as y, 'q' as z from t", (6, 4, "q"), (None, 1, "q"), (7, 4, "q"), (None, 9, "q"))
        self.means("select t.a from t where t.b > 5", (2,))
        self.means("select t.a from t where t.b > 5 or t.b is null", (1,), (2,), (3,))
        self.means("select t.a from t where not t.b > 5", (2,))
        self.means("select t.a from t where maybe t.b > 5", (1,), (2,), (3,))
        self.means("select s.c, t.b from s, t where t.a = s.a and s.c is not null", (9, 5), (9, 6), (7, None))
        self.means("select none.k from none")

    def test_distinct(self):
        self.means("select distinct t.a from t", (2,), (1,), (3,))
        self.means("select distinct t.b from t", (5,), (None,), (6,))
        self.means("select distinct t.a, s.a as c from t, s where s.c > 7 or s.c is null",
                   (2, 2), (2, None), (1, 2), (1, None), (3, 2), (3, None))
        self.means("select distinct count (*) as n from t group by t.a", (2,), (1,))

    def test_listed(self):
        self.means("select t.a, t.b from t order by a", (1, None), (2, 5), (2, 6), (3, None))
        self.means("select t.a, t.b from t order by a desc", (3, None), (2, 5), (2, 6), (1, None))
        self.means("select t.a, t.b from t order by b", (1, None), (3, None), (2, 5), (2, 6))
        self.means("select t.a, t.b from t order by b desc", (2, 6), (2, 5), (1, None), (3, None))
        self.means("select t.a, t.b from t order by b, a desc", (3, None), (1, None), (2, 5), (2, 6))
        self.means("select t.b, t.a from t order by a desc, b desc", (None, 3), (6, 2), (5, 2), (None, 1))
        self.means("select t.b, t.a from t limit 9", (None, 1), (None, 3), (5, 2), (6, 2))
        self.means("select t.b, t.a from t limit 3", (None, 1), (None, 3), (5, 2))
        self.means("select t.a from t limit 0")
        self.means("select t.a from t order by a desc limit 2", (3,), (2,))
        self.means("select distinct t.a from t order by a desc limit 2", (3,), (2,))
        self.means("select distinct t.a from t limit 2", (1,), (2,))

    def test_grouped(self):
        self.means("select t.a, count (*) as n, count (t.b) as m, sum (t.b) as x from t group by t.a",
                   (2, 2, 2, 11), (1, 1, 0, None), (3, 1, 0, None))
        self.means("select t.b, count (*) as n from t group by t.b", (5, 1), (None, 2), (6, 1))
        self.means("select min (t.b) as x, max (t.b) as y, t.a + 1 as z from t group by t.a",
                   (5, 6, 3), (None, None, 2), (None, None, 4))
        self.means("select sum (t.a) + count (*) * 10 as x from t group by t.a", (24,), (11,), (13,))
        self.means("select t.a from t group by t.a, t.b", (2,), (1,), (2,), (3,))
        self.means("select t.a from t group by t.a", (2,), (1,), (3,))
        self.means("select count (*) as n from t, s group by s.a", (8,), (4,), (4,))
        self.means("select none.k, count (*) as n from none group by none.k")

    def test_having(self):
        self.means("select t.a from t group by t.a having count (*) > 1", (2,))
        self.means("select t.a from t group by t.a having sum (t.b) > 1", (2,))
        self.means("select t.a from t group by t.a having not sum (t.b) > 100", (2,))
        self.means("select t.a from t group by t.a having maybe sum (t.b) > 100", (1,), (3,))
        self.means("select t.a from t group by t.a having t.a > 1 and max (t.b) is null", (3,))

    def test_bare(self):
        self.means("select count (*) as n, sum (none.k) as x, count (none.k) as m, min (none.k) as y from none", (0, None, 0, None))
        self.means("select count (*) as n, sum (t.b) as x, max (t.a) as y from t", (4, 11, 3))
        self.means("select count (*) as n from t where t.a > 7", (0,))
        self.means("select count (*) as n from none having count (*) = 1")
        self.means("select 1 as n from none having 1 = 1", (1,))
        self.means("select 'x' as n from t having 1 = 2")
        self.means("select count (*) as n from none group by none.k")
        self.means("select count (*) as n from t limit 0")

    def test_inner_questions(self):
        # without a limit the orders of an inner question say nothing
        self.means("select q.a from (select t.a from t order by a desc) q", (2,), (1,), (2,), (3,))
        self.means("select q.a from (select t.a from t order by a desc limit 2) q", (3,), (2,))
        self.means("select q.a from (select t.a from t limit 3) q", (1,), (2,), (2,))
        self.means("select q.a from (select t.a from t limit 0) q")
        self.means("select q.a from (select distinct t.a from t) q, t where t.b = 6", (2,), (1,), (3,))
        self.means("select q.n, t.a from (select count (*) as n from s) q join t on t.a = q.n - 1", (4, 3))
        self.means("select t.a from t where t.a in (select s.a from s order by a limit 2)", (1,))
        self.means("select t.a from t where t.a in (select s.a from s order by a desc limit 2)", (2,), (2,))
        self.means("select t.a from t where t.a not in (select count (*) as n from none)", (2,), (1,), (2,), (3,))

    def test_exists(self):
        self.means("select t.a, t.b from t where exists (from s where s.a = t.a)", (2, 5), (1, None), (2, 6))
        self.means("select t.a, t.b from t where not exists (from s where s.a = t.a)", (3, None))
        self.means("select t.a, t.b from t where not exists (from s where s.a = t.b)", (2, 5), (1, None), (2, 6), (3, None))
        self.means("select t.a from t where exists (from s where exists (from t u where u.a = s.a and u.b = 6) and s.a = t.a)", (2,), (2,))
        self.means("select t.a from t where exists (from s left join none on s.a = none.k where none.k is null and s.a = t.a)",
                   (2,), (1,), (2,))
        # an alias of the exists goes ahead of the one around
        self.means("select t.b from t where exists (from s t where t.c = 7)", (5,), (None,), (6,), (None,))

    def test_withs(self):
        self.means("with w as (select t.a, t.b from t where t.b is not null) select w.a, v.b from w, w v", (2, 5), (2, 6), (2, 5), (2, 6))
        self.means("with w as (select s.c from s order by c desc) select w.c from w", (9,), (8,), (7,), (None,))
        self.means("with w as (select s.c from s order by c desc limit 2) select w.c from w", (9,), (8,))
        # a name told by with goes ahead of the table, but not in itself
        self.means("with t as (select t.b as a from t) select t.a from t", (5,), (None,), (6,), (None,))
        self.means("with w as (select t.a from t), t as (select s.c as a from s) select t.a, w.a as b from t, w where w.a = 1",
                   (9, 1), (8, 1), (7, 1), (None, 1))
        self.means("with t as (select s.c as a from s), w as (select t.a from t) select w.a from w", (9,), (8,), (7,), (None,))
        # in exists, in and inner questions
        self.means("with t as (select s.c as a from s) select q.a from (select t.a from t) q where q.a in (select t.a from t) "
                   "and exists (from t where t.a = q.a)", (9,), (8,), (7,))
        # told again within, it means what it meant around where it is told
        self.means("with w as (select t.a from t) select x.y from (with w as (select w.a + 10 as y from w) select w.y from w) x",
                   (12,), (11,), (12,), (13,))
        # what was told keeps its meaning where the name means another thing
        self.means("with w as (select t.b from t) select x.b from (with t as (select s.a as b from s) select w.b from w, t where t.b = 1) x",
                   (5,), (None,), (6,), (None,))

    def test_views(self):
        house = small()
        make_view(house, "v", "select t.a + 1 as x, t.b from t order by x desc")
        make_view(house, "w", "select v.x from v limit 3")
        self.means("select v.x from v", (3,), (2,), (3,), (4,), house=house)
        self.means("select w.x from w", (2,), (3,), (3,), house=house)
        # a view means the names of the house, whatever a with tells
        self.means("with t as (select 1 as z from s) select v.x, t.z from v, t where v.x = 4",
                   (4, 1), (4, 1), (4, 1), (4, 1), house=house)
        self.means("with v as (select s.c as x from s) select w.x, v.x as y from w, v where v.x = 9", (2, 9), (3, 9), (3, 9), house=house)
        house.put("t", (0, 0))
        self.means("select w.x from w", (1,), (2,), (3,), house=house)

    def test_answers_of_other_rows(self):
        """What the house tells at the time of the question counts."""
        house = small()
        question = read_question("select count (*) as n from t")
        self.same(meaning(house, question), [(4,)])
        house.put("t", (4, 4))
        self.same(meaning(house, question), [(5,)])
        house.take("t", (2, 5))
        house.take("t", (2, 6))
        self.same(meaning(house, question), [(3,)])

    def test_what_is_returned_is_new(self):
        house = small()
        question = read_question("select t.a from t")
        rows = meaning(house, question)
        rows.clear()
        self.same(meaning(house, question), [(2,), (1,), (2,), (3,)])
        self.same(house.rows_of_table("t"), [(2, 5), (1, None), (2, 6), (3, None)])


class NamesUsedTest(helper.Case):

    def used(self, text, *names):
        house = small()
        make_view(house, "v", "select t.a from t")
        make_view(house, "r", "select v.a from v, s")
        self.same(names_used(house=house, question=read_question(text)), names)

    def test_names(self):
        self.used("select t.a from t", "t")
        self.used("select s.a from t u, s, t", "s", "t")
        self.used("select v.a from v", "v")
        self.used("select r.a from r, t", "r", "t")
        self.used("select q.a from (select t.a from t where t.a in (select s.a from s)) q", "s", "t")
        self.used("select t.a from t where exists (from s where s.a = t.a and not exists (from none))", "none", "s", "t")
        self.used("select t.a from t join v on exists (from s) left join r on 1 in (select none.k from none)", "none", "r", "s", "t", "v")
        self.used("select t.a from t having 1 in (select s.a from s)", "s", "t")
        self.used("select t.a from t where 1 = 1 and [2 = 2 or maybe not exists (from s)]", "s", "t")

    def test_withs(self):
        self.used("with w as (select s.a from s) select t.a from t", "s", "t")
        self.used("with w as (select s.a from s) select w.a from w", "s")
        self.used("with t as (select s.a from s) select t.a from t", "s")
        self.used("with t as (select t.a from t) select t.a from t where exists (from t)", "t")
        self.used("with w as (select t.a from t), t as (select s.a from s) select t.a from t, w", "s", "t")
        self.used("with t as (select s.a from s), w as (select t.a from t) select w.a from w", "s")
        self.used("with s as (select v.a from v) select q.a from (select s.a from s where exists (from s)) q where 1 in (select s.a from s)", "v")
        self.used("select q.a from (with t as (select s.a from s) select t.a from t) q, t", "s", "t")


class ConsequencesTest(helper.Case):
    """[38]"""

    def setUp(self):
        self.chance = random.Random(21)

    def test_each_row_has_a_value_of_its_kind(self):
        rows = 0
        for question in helper.chance_questions(22, 300):
            house = helper.store()
            helper.fill(house, self.chance, 4)
            told = checked(house, question)
            for row in meaning(house, question):
                rows += 1
                self.assertIs(type(row), tuple)
                self.assertEqual(len(row), len(told))
                for value, (_, kind) in zip(row, told):
                    self.assertIn(type(value), (type(None), int if kind == "number" else str))
        self.assertGreater(rows, 200)

    def test_other_sequences_of_rows(self):
        for question in helper.chance_questions(23, 200):
            one = helper.store()
            helper.fill(one, self.chance, 4)
            other = helper.store()
            for table in ("t", "s", "p"):
                rows = one.rows_of_table(table)
                self.chance.shuffle(rows)
                for row in rows:
                    other.put(table, row)
            found, again = meaning(one, question), meaning(other, question)
            self.assertTrue(alike_bags(found, again))
            if question[8] or question[9] is not None:
                self.same(found, again)

    def test_a_smaller_limit(self):
        house = helper.store()
        helper.fill(house, self.chance, 5)
        for question in helper.chance_questions(24, 100):
            lists = [meaning(house, question[:9] + (limit,)) for limit in range(5)]
            for limit, found in enumerate(lists):
                self.same(found, lists[-1][:limit])

    def test_a_view_in_the_place_of_its_question(self):
        for number, inner in enumerate(helper.chance_questions(25, 60, 1)):
            house = helper.store()
            helper.fill(house, self.chance, 4)
            name = inner[3][0][1]
            make_view(house, "n", shown(inner))
            by_name = read_question(f"select q.{name} from n q, p left join n r on r.{name} = q.{name}")
            whole = read_question(f"select q.{name} from ({shown(inner)}) q, p left join ({shown(inner)}) r on r.{name} = q.{name}")
            self.same(meaning(house, by_name), meaning(house, whole))

    def test_a_with_in_the_place_of_its_question(self):
        house = helper.store()
        helper.fill(house, self.chance, 4)
        for inner in helper.chance_questions(26, 60, 1):
            name, text = inner[3][0][1], shown(inner)
            told = read_question(f"with n as ({text}) select q.{name} from n q, p")
            whole = read_question(f"select q.{name} from ({text}) q, p")
            self.same(meaning(house, told), meaning(house, whole))


if __name__ == "__main__":
    unittest.main()
