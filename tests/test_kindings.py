"""[33] kinds of expressions and outputs."""

import itertools
import unittest

import helper
from leastplans.errors import BadKind
from leastplans.exprreading import read_expr
from leastplans.kindings import kind_of_expr, outputs
from leastplans.questionreading import read_question
from leastplans.views import make_view

COLUMNS = {("t", "n"): "number", ("t", "x"): "text", ("u", "x"): "number"}
# wrong things in the clauses of WHOLE, in the sequence in which they are looked at
PLACES = (
    ("w1", "items", "t.a", "- t.x"),
    ("w2", "where", "t.a", "t.x"),
    ("f1", "having", "1", "''"),
    ("on1", "on", "t.a", "t.x"),
    ("f2", "items", "t.b", "t.b + t.x"),
    ("on2", "on", "q.m", "q.k"),
    ("i1", "items", "sum (t.b)", "sum (t.x)"),
    ("wh1", "where", "t.x", "t.a"),
    ("eo", "on", "l.a", "l.y"),
    ("ew", "where", "t.b", "k.x"),
    ("ie", "where", "t.a", "- t.x"),
    ("iq", "having", "1", "'a'"),
    ("ii", "where", "p.k", "'a'"),
    ("h1", "having", "t.a", "'a' * 2"),
)
WHOLE = (
    "with w as (select {w1} as m from t where {w2} = 1) "
    "select {i1} as o, t.a from t join (select t.x as k, t.a as m from t having {f1} = 1) q on {on1} = q.m "
    "left join (select {f2} as m, t.x as k from t) r on {on2} = 2 "
    "where {wh1} = 'a' and exists (from t k join s l on 1 = {eo} where {ew} = 1) "
    "and {ie} in (select {ii} as z from p group by p.k having count (*) = {iq}) "
    "group by t.a having {h1} is not null"
)


def whole(*wrong):
    return WHOLE.format(**{name: bad if name in wrong else good for name, _, good, bad in PLACES})


class KindOfExprTest(helper.Case):

    def test_kinds(self):
        self.every((
            ("7", "number"), ("'7'", "text"), ("t.n", "number"), ("t.x", "text"), ("u.x", "number"),
            ("count (*)", "number"), ("count (t.x)", "number"), ("count (t.n)", "number"),
            ("sum (t.n)", "number"), ("sum (t.x)", None), ("min (t.n)", "number"), ("min (t.x)", "text"),
            ("max (t.n)", "number"), ("max (t.x)", "text"), ("- t.n", "number"), ("- t.x", None), ("- 'a'", None),
            ("1 + t.n", "number"), ("1 + t.x", None), ("t.x + 1", None), ("t.x + t.x", None), ("'a' - 1", None),
            ("1 - 1", "number"), ("1 - 'a'", None), ("2 * u.x", "number"), ("2 * t.x", None), ("min (t.x) + 1", None),
            ("min (t.n) + 1", "number"), ("1 + (2 * - t.x)", None), ("1 + (2 * - t.n)", "number"),
            ("sum (t.x) + 1", None), ("count (t.x) * 2", "number"), ("- - sum (u.x)", "number"),
        ), lambda text, kind: self.same(kind_of_expr(columns=COLUMNS, expr=read_expr(text)), kind))
        self.same(kind_of_expr({}, ("num", 1)), "number")


class OutputsTest(helper.Case):

    def told(self, text, *pairs, house=None):
        self.same(outputs(house=house or helper.store(), question=read_question(text)), pairs)

    def bad(self, place, text, house=None):
        self.refused(BadKind(place), outputs, house or helper.store(), read_question(text))

    def test_outputs(self):
        self.told("select t.a, t.x as z, 'a' as b, 1 as c from t", ("a", "number"), ("z", "text"), ("b", "text"), ("c", "number"))
        self.told("select count (t.x) as n, max (t.x) as m, sum (t.b) as k from t",
                  ("n", "number"), ("m", "text"), ("k", "number"))
        self.told("select u.z, u.n from (select t.x as z, count (*) as n from t group by t.x) u", ("z", "text"), ("n", "number"))
        self.told("select v.w, v.a from v", ("w", "text"), ("a", "number"))
        self.told("with w as (select t.x as y from t), v as (select w.y as z, 1 as n from w) select v.n, v.z from v",
                  ("n", "number"), ("z", "text"))

    def test_example(self):
        self.bad("where", "select t.a from t where t.b in (select 'x' as y from s)", helper.shop())

    def test_one_wrong(self):
        self.told(whole(), ("o", "number"), ("a", "number"))
        for name, place, _, _ in PLACES:
            with self.subTest(name=name):
                self.bad(place, whole(name))

    def test_two_wrong(self):
        for (name, place, _, _), (later, _, _, _) in itertools.combinations(PLACES, 2):
            with self.subTest(name=name, later=later):
                self.bad(place, whole(name, later))

    def test_an_in_is_looked_at_behind_its_question(self):
        head = "select t.a from t where t.a in (select {} as z from s {})"
        self.bad("where", head.format("s.y", ""))
        self.bad("items", head.format("- s.y", ""))
        self.bad("having", head.format("s.y", "having 1 = 'a'"))
        self.bad("on", head.format("s.y", "join t on 1 = 'a'"))
        self.bad("where", "select t.a from t where - t.x in (select s.a from s having 1 = 'a')")
        # the first output counts
        self.told("select t.a from t where t.a in (select s.a, s.y from s)", ("a", "number"))
        self.bad("where", "select t.a from t where t.a in (select s.y, s.a from s)")
        self.told("select t.a from t where t.x not in (select s.y from s)", ("a", "number"))

    def test_each_expression(self):
        self.every((
            ("items", "select - t.x as z from t"), ("items", "select t.a, 'a' + 1 as z from t"),
            ("items", "select sum (t.x) as z from t"), ("where", "select t.a from t where - t.x is null"),
            ("where", "select t.a from t where t.a = 'a'"), ("where", "select t.a from t where t.x = 1"),
            ("where", "select t.a from t where not [maybe [t.a = 1 or t.x < t.a]]"),
            ("where", "select t.a from t where t.x + 1 = 1"), ("where", "select t.a from t where 1 = - t.x"),
            ("having", "select t.a from t having sum (t.x) = 1"), ("having", "select t.a from t having min (t.x) = 1"),
            ("on", "select t.a from t join s on t.a = s.y"), ("on", "select t.a from t left join s on - s.y is null"),
        ), self.bad)

    def test_the_innermost_place(self):
        self.every((
            ("on", "select t.a from t where exists (from t u join s on u.a = s.y)"),
            ("where", "select t.a from t join s on exists (from t u where u.a = 'a')"),
            ("where", "select t.a from t having exists (from t u where u.a = 'a')"),
            ("where", "select t.a from t where exists (from s where s.y = t.a)"),
            ("where", "select t.a from t where exists (from s where exists (from t u where u.x = s.a))"),
            ("items", "select t.a from t where exists (from (select - t.x as z from t) u)"),
            ("having", "select t.a from t where t.a in (select t.a from t having t.a = 'a')"),
            ("having", "select t.a from t having t.a in (select t.x from t)"),
            ("on", "select t.a from t join s on t.x in (select t.a from t)"),
        ), self.bad)

    def test_own_aliases_go_ahead(self):
        self.told("select t.a from t where exists (from s t where t.y = 'a')", ("a", "number"))
        house = helper.store()
        house.add_table("r", (("a", "text", True),), (("rows", 1),))
        self.told("select t.a from t where exists (from r t where t.a = 'a')", ("a", "number"), house=house)
        self.bad("where", "select t.a from t where exists (from r t where t.a = 1)", house)

    def test_names_told_by_with(self):
        # the kind of a column is that of where the name was told
        text = "with w as (select t.a from t), t as (select s.y as a from s) select w.a as n, t.a from w, t where {}"
        self.told(text.format("w.a = 1 and t.a = 'a'"), ("n", "number"), ("a", "text"))
        self.bad("where", text.format("w.a = 'a'"))
        self.bad("where", text.format("t.a = 1"))
        self.bad("items", "with w as (select - t.x as z from t) select t.a from t where 1 = 'a'")
        self.bad("where", "with w as (select t.a from t where 1 = 'a'), v as (select - t.x as z from t) select t.a from t")
        house = helper.store()
        make_view(house, "r", "select v.w as a, t.a as w from v, t")
        self.told("with t as (select s.y as a from s) select r.a, r.w from r, t where r.w = 1 and t.a = r.a",
                  ("a", "text"), ("w", "number"), house=house)


if __name__ == "__main__":
    unittest.main()
