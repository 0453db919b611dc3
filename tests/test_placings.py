"""[34] where aggs, exists, in and columns stand; all checks in their sequence."""

import itertools
import unittest

import helper
from leastplans.checking import checked
from leastplans.errors import BadKind, BadPlace, NoName, TwiceNamed
from leastplans.kindings import outputs
from leastplans.namings import named
from leastplans.placings import placed_well
from leastplans.questionreading import read_question

IN, EXISTS = "t.a in (select s.a from s)", "exists (from s where s.a = 1)"
# wrong things in the clauses of WHOLE, in the sequence in which they are looked at
PLACES = (
    ("w1", "group", "sum (t.a)", "t.a + sum (t.a)"),
    ("f1", "in", "t.a = 1", f"maybe {IN}"),
    ("on1", "agg", "t.a", "sum (t.a)"),
    ("f2", "exists", "t.a = 1", f"[1 = 1 or {EXISTS}]"),
    ("i1", "group", "t.a", "t.b"),
    ("i2", "group", "sum (t.b)", "t.b * 2"),
    ("wh1", "agg", "t.b", "max (t.b)"),
    ("eo", "in", "k.a = 1", "k.a in (select s.a from s)"),
    ("ew", "agg", "k.a", "count (*)"),
    ("em", "exists", "exists (from s where s.a = k.a)", "not not exists (from s where s.a = k.a)"),
    ("in1", "in", "", ", s.c"),
    ("ie", "agg", "t.a", "min (t.a)"),
    ("iq", "group", "s.c", "s.a"),
    ("h1", "group", "t.a", "t.b"),
    ("h2", "in", "t.a = 1", "t.b in (select s.a from s)"),
)
WHOLE = (
    "with w as (select {w1} as m from t) "
    "select {i1} as o, {i2} as n from t join (select t.a from t where {f1}) q on {on1} = 1 "
    "left join (select t.a from t where {f2}) r on 1 = 1 "
    "where {wh1} = 1 and not exists (from t k join s l on {eo} where {ew} = 1 and {em}) "
    "and {ie} not in (select s.c{in1} from s where 1 = 1 group by s.c having {iq} = 1) "
    "group by t.a having {h1} = 1 and {h2}"
)


def whole(*wrong):
    return WHOLE.format(**{name: bad if name in wrong else good for name, _, good, bad in PLACES})


class PlacingsTest(helper.Case):

    def let(self, *texts):
        for text in texts:
            with self.subTest(text=text):
                self.assertIsNone(placed_well(question=read_question(text)))

    def bad(self, what, *texts):
        for text in texts:
            with self.subTest(text=text):
                self.refused(BadPlace(what), placed_well, read_question(text))

    def test_one_wrong(self):
        self.let(whole())
        for name, what, _, _ in PLACES:
            self.bad(what, whole(name))

    def test_two_wrong(self):
        for (name, what, _, _), (later, _, _, _) in itertools.combinations(PLACES, 2):
            self.bad(what, whole(name, later))

    def test_aggs(self):
        self.bad("agg", "select t.a from t where sum (t.a) = 1", "select t.a from t where 1 = - sum (t.a)",
                 "select t.a from t where count (*) is null", "select t.a from t join s on count (*) = 1",
                 "select t.a from t left join s on not [1 = 1 or max (t.a) is null]",
                 "select t.a from t where exists (from s where sum (s.a) = 1)",
                 "select t.a from t where exists (from s where sum (t.a) = 1)",
                 "select t.a from t where exists (from s join t on count (*) = 1)",
                 "select t.a from t where count (*) in (select s.a from s)",
                 "select t.a from (select t.a from t where sum (t.a) = 1) t")
        self.let("select sum (t.a) as x from t", "select t.a from t group by t.a having sum (t.a) + count (*) = 1",
                 "select t.a from t where t.a in (select sum (s.a) as x from s)",
                 "select t.a from t join (select count (*) as x from s) s on s.x = 1")

    def test_members_of_a_where(self):
        for what, cond in (("in", IN), ("exists", EXISTS)):
            head = "select t.a from t where "
            self.let(head + cond, f"{head}not {cond}", f"{head}1 = 1 and {cond}", f"{head}{cond} and 1 = 1",
                     f"{head}1 = 1 and [2 = 2 and not {cond}]", f"{head}[{cond} and {cond}] and not {cond}",
                     f"{head}exists (from s where {cond})", f"{head}not exists (from s where 1 = 1 and not {cond})",
                     f"{head}exists (from t u where exists (from s where {cond}))")
            self.bad(what, f"{head}not not {cond}", f"{head}maybe {cond}", f"{head}not maybe {cond}", f"{head}maybe not {cond}",
                     f"{head}1 = 1 or {cond}", f"{head}{cond} or 1 = 1", f"{head}not [1 = 1 and {cond}]",
                     f"{head}1 = 1 and [2 = 2 or not {cond}]", f"{head}not [not {cond}]",
                     f"{head}exists (from s where 1 = 1 or {cond})", f"{head}exists (from s join t on {cond})",
                     f"{head}not exists (from s where not not {cond})",
                     f"select t.a from t join s on {cond}", f"select t.a from t join s on not {cond}",
                     f"select t.a from t left join s on 1 = 1 and {cond}", f"select 1 as x from t having {cond}",
                     f"select t.a from t group by t.a having 1 = 1 and not {cond}",
                     f"with w as (select 1 as x from t having {cond}) select t.a from t")
        self.let("select t.a from t where t.a not in (select s.a from s)")
        self.bad("in", "select t.a from t where not t.a not in (select s.a from s)")

    def test_an_in_of_several_items(self):
        self.bad("in", "select t.a from t where t.a in (select s.a, s.c from s)",
                 "select t.a from t where t.a not in (select s.a, s.c from s)",
                 "select t.a from t where exists (from s where s.a in (select t.a, t.b from t))")
        self.let("select t.a from (select t.a, t.b from t) t")

    def test_a_condition_goes_ahead_of_its_parts(self):
        self.bad("in", "select t.a from t where maybe sum (t.a) in (select s.a from s where sum (s.a) = 1)",
                 "select t.a from t where sum (t.a) in (select s.a, s.c from s)",
                 "select t.a from t where t.a in (select s.a, s.c from s where sum (s.a) = 1)",
                 "select t.a from t group by t.a having t.b in (select s.a from s)")
        self.bad("exists", "select 1 as x from t having exists (from s where sum (s.a) = 1)",
                 "select t.a from t where maybe exists (from (select s.a from s where sum (s.a) = 1) s)")
        self.bad("agg", "select t.a from t where sum (t.a) in (select s.a from s where maybe exists (from s))",
                 f"select t.a from t where sum (t.a) = 1 and maybe {IN}",
                 f"select t.a from t where [sum (t.a) = 1 or {EXISTS}]")
        self.bad("in", f"select t.a from t where maybe {IN} and sum (t.a) = 1")

    def test_groups(self):
        self.let("select t.a from t group by t.a", "select t.a + 1 as x, count (t.b) as n from t group by t.a, t.b",
                 "select t.b from t", "select sum (t.b) as x from t", "select 1 as x from t having 1 = 1",
                 "select t.a, t.b from t, s group by t.b, t.a having t.a = t.b and sum (s.a) = t.a",
                 "select t.a from t group by t.a having max (t.b) = 1", "select 1 as x from t having sum (t.a) = 1")
        self.bad("group", "select t.b from t group by t.a", "select t.a, t.b from t group by t.a",
                 "select - (1 + t.b) as x from t group by t.a", "select t.a, sum (t.a) as x from t",
                 "select sum (t.a) + t.a as x from t", "select t.a from t having 1 = 1", "select t.a from t having t.a = 1",
                 "select t.a from t group by t.a having t.b = 1", "select t.a from t group by t.a having not [1 = 1 or t.b is null]",
                 "select t.a from t u, t group by u.a", "select 1 as x from t having t.a = 1",
                 "select 1 as x from t where 1 = 1 having count (*) = t.a")
        # clauses other than items and having are free
        self.let("select count (*) as x from t join s on t.a = s.a where t.b = 1 group by t.a order by x")

    def test_items_ahead_of_where(self):
        self.bad("group", "select t.b from t where sum (t.a) = 1 group by t.a")
        self.bad("agg", "select t.a from t where sum (t.a) = 1 group by t.a having t.b = 1")


class CheckedTest(helper.Case):

    def bad(self, error, text):
        self.refused(error, checked, helper.store(), read_question(text))

    def test_let(self):
        house = helper.store()
        for question in helper.chance_questions(12, 150):
            self.same(checked(house=house, question=question), outputs(house, question))
            self.assertIsNone(named(house, question))
            self.assertIsNone(placed_well(question))

    def test_example(self):
        question = read_question("select t.b + 'x' as y from t where sum (t.z) = 1")
        self.refused(NoName("z"), checked, helper.shop(), question)

    def test_each_goes_over_the_whole(self):
        # names ahead of kinds ahead of places, wherever they stand
        self.bad(BadPlace("agg"), "select t.a from t join s on sum (t.a) = 1 where t.b = 1 order by a")
        self.bad(BadKind("having"), "select t.a from t join s on sum (t.a) = 1 group by t.a having t.a = 'a' order by a")
        self.bad(NoName("z"), "select t.a from t join s on sum (t.a) = 1 group by t.a having t.a = 'a' order by z")
        self.bad(TwiceNamed("w"), "with w as (select - t.x as y from t), w as (select s.a from s) select t.b from t group by t.a")
        self.bad(BadKind("where"), "with w as (select t.b from t group by t.a) select t.a from t where 1 = 'a'")
        self.bad(NoName("z"), "with w as (select - t.x as y from t group by t.a) select t.a from t where z.a = 1")

    def test_several_at_once(self):
        wrong = {"name": ("t.z", NoName("z")), "kind": ("- t.x", BadKind("where")), "place": ("sum (t.a)", BadPlace("agg"))}
        for many in (1, 2, 3):
            for chosen in itertools.permutations(wrong, many):
                conds = " and ".join(f"{wrong[word][0]} = 1" for word in chosen)
                first = min(chosen, key=("name", "kind", "place").index)
                self.bad(wrong[first][1], f"select t.a from t where {conds}")


if __name__ == "__main__":
    unittest.main()
