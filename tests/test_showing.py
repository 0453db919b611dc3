"""[17] [20] shown trees."""

import random
import unittest

import helper
from leastplans.exprreading import read_expr
from leastplans.questionreading import read_cond, read_question
from leastplans.showing import shown, shown_cond, shown_expr
from leastplans.trees import joined, members

A = ("col", "t", "a")
ONE, TWO, THREE = ("num", 1), ("num", 2), ("num", 3)
P, Q, R = ("cmp", "=", A, ONE), ("cmp", "<", A, TWO), ("null", A)
TEXTS = {"expr": (read_expr, shown_expr), "cond": (read_cond, shown_cond), "question": (read_question, shown)}


class ShowingTest(helper.Case):

    def test_words(self):
        self.every((
            (ONE, "1"), (("num", 0), "0"), (("text", ""), "''"), (("text", " a ("), "' a ('"), (A, "t.a"),
            (("agg", "count", None), "count (*)"), (("agg", "count", A), "count (t.a)"),
            (("agg", "sum", A), "sum (t.a)"), (("agg", "min", A), "min (t.a)"), (("agg", "max", A), "max (t.a)"),
            (("neg", ("mul", ONE, ("text", ""))), "- (1 * '')"),
        ), lambda tree, text: self.same(shown_expr(expr=tree), text))

    def test_brackets_in_expressions(self):
        """Each of the trees with two levels."""
        add, sub, mul, neg = ("add", ONE, TWO), ("sub", ONE, TWO), ("mul", ONE, TWO), ("neg", ONE)
        self.every((
            (("add", add, THREE), "1 + 2 + 3"), (("add", sub, THREE), "1 - 2 + 3"),
            (("add", mul, THREE), "1 * 2 + 3"), (("add", neg, THREE), "- 1 + 3"),
            (("add", THREE, add), "3 + (1 + 2)"), (("add", THREE, sub), "3 + (1 - 2)"),
            (("add", THREE, mul), "3 + 1 * 2"), (("add", THREE, neg), "3 + - 1"),
            (("sub", add, THREE), "1 + 2 - 3"), (("sub", sub, THREE), "1 - 2 - 3"),
            (("sub", mul, THREE), "1 * 2 - 3"), (("sub", neg, THREE), "- 1 - 3"),
            (("sub", THREE, add), "3 - (1 + 2)"), (("sub", THREE, sub), "3 - (1 - 2)"),
            (("sub", THREE, mul), "3 - 1 * 2"), (("sub", THREE, neg), "3 - - 1"),
            (("mul", add, THREE), "(1 + 2) * 3"), (("mul", sub, THREE), "(1 - 2) * 3"),
            (("mul", mul, THREE), "1 * 2 * 3"), (("mul", neg, THREE), "- 1 * 3"),
            (("mul", THREE, add), "3 * (1 + 2)"), (("mul", THREE, sub), "3 * (1 - 2)"),
            (("mul", THREE, mul), "3 * (1 * 2)"), (("mul", THREE, neg), "3 * - 1"),
            (("neg", add), "- (1 + 2)"), (("neg", sub), "- (1 - 2)"), (("neg", mul), "- (1 * 2)"),
            (("neg", neg), "- - 1"), (("neg", ("agg", "sum", A)), "- sum (t.a)"),
            (("mul", ("mul", add, sub), ("neg", mul)), "(1 + 2) * (1 - 2) * - (1 * 2)"),
        ), self.is_shown("expr"))

    def test_brackets_in_conditions(self):
        p, q, r = "t.a = 1", "t.a < 2", "t.a is null"
        both, either, no, perhaps = ("and", P, Q), ("or", P, Q), ("not", P), ("maybe", P)
        isnt, outside = ("not", R), ("not", ("in", A, read_question("select t.a from t")))
        inside = "(select t.a from t)"
        self.every((
            (("and", both, R), f"{p} and {q} and {r}"), (("and", either, R), f"[{p} or {q}] and {r}"),
            (("and", no, R), f"not {p} and {r}"), (("and", perhaps, R), f"maybe {p} and {r}"),
            (("and", R, both), f"{r} and [{p} and {q}]"), (("and", R, either), f"{r} and [{p} or {q}]"),
            (("and", R, no), f"{r} and not {p}"), (("and", R, perhaps), f"{r} and maybe {p}"),
            (("or", both, R), f"{p} and {q} or {r}"), (("or", either, R), f"{p} or {q} or {r}"),
            (("or", no, R), f"not {p} or {r}"), (("or", perhaps, R), f"maybe {p} or {r}"),
            (("or", R, both), f"{r} or {p} and {q}"), (("or", R, either), f"{r} or [{p} or {q}]"),
            (("or", R, no), f"{r} or not {p}"), (("or", R, perhaps), f"{r} or maybe {p}"),
            (("not", both), f"not [{p} and {q}]"), (("not", either), f"not [{p} or {q}]"),
            (("not", no), f"not not {p}"), (("not", perhaps), f"not maybe {p}"),
            (("maybe", both), f"maybe [{p} and {q}]"), (("maybe", either), f"maybe [{p} or {q}]"),
            (("maybe", no), f"maybe not {p}"), (("maybe", perhaps), f"maybe maybe {p}"),
            (isnt, "t.a is not null"), (("not", isnt), "not t.a is not null"), (("maybe", isnt), "maybe t.a is not null"),
            (("and", isnt, isnt), "t.a is not null and t.a is not null"),
            (outside, f"t.a not in {inside}"), (("not", outside), f"not t.a not in {inside}"),
            (("maybe", outside), f"maybe t.a not in {inside}"), (outside[1], f"t.a in {inside}"),
            (("or", outside[1], outside), f"t.a in {inside} or t.a not in {inside}"),
        ), self.is_shown("cond"))

    def is_shown(self, what):
        read, show = TEXTS[what]

        def check(tree, text):
            self.same(show(tree), text)
            self.same(read(text), tree)
        return check

    def test_conditions(self):
        for op in ("=", "<>", "<", "<=", ">", ">="):
            self.assertEqual(shown_cond(cond=("cmp", op, ONE, ("add", ONE, TWO))), f"1 {op} 1 + 2")
        self.assertEqual(shown_cond(("null", ("add", ONE, TWO))), "1 + 2 is null")
        self.assertEqual(shown_cond(("cmp", "=", ("neg", ONE), ("neg", TWO))), "- 1 = - 2")
        t = ("from", ("named", "t"), "t", None)
        self.assertEqual(shown_cond(("exists", (t,), None)), "exists (from t)")
        self.assertEqual(shown_cond(("not", ("exists", (t,), P))), "not exists (from t where t.a = 1)")
        self.assertEqual(shown_cond(("exists", (t, ("cross", ("named", "t"), "u", None)), ("or", P, Q))),
                         "exists (from t, t u where t.a = 1 or t.a < 2)")

    def test_questions(self):
        self.every((
            ("select t.a from t",) * 2,
            ("select (t.a)as x,t.b as b from t t where not[t.a is null]order by x asc",
             "select t.a as x, t.b from t where t.a is not null order by x"),
            ("select distinct t.a as a,(t.a) as b from t u", "select distinct t.a, t.a as b from t u"),
            ("select 1 as a,count( * )as n from t", "select 1 as a, count (*) as n from t"),
            ("select t.a from t ,s u,s s", "select t.a from t, s u, s"),
            ("select t.a from t t join s s on[t.a=1]left join t u on t.a=2",
             "select t.a from t join s on t.a = 1 left join t u on t.a = 2"),
            ("select t.a from(select t.a from t)t,(select s.a from s)u",
             "select t.a from (select t.a from t) t, (select s.a from s) u"),
            ("select t.a from t group by t.a,t.b having(t.a)=1", "select t.a from t group by t.a, t.b having t.a = 1"),
            ("select t.a from t order by a desc,b asc,c limit 0", "select t.a from t order by a desc, b, c limit 0"),
            ("select t.a from t limit 12",) * 2,
            ("with x as(select t.a from t),y as(select x.a from x x)select y.a from y",
             "with x as (select t.a from t), y as (select x.a from x) select y.a from y"),
            ("select t.a from t where exists(from s where s.a in(select 1 as x from t))and[1=1 or 2=2]",
             "select t.a from t where exists (from s where s.a in (select 1 as x from t)) and [1 = 1 or 2 = 2]"),
        ), lambda text, short: self.same(shown(question=read_question(text)), short))

    def test_deep_trees(self):
        """joined gives trees that are deeper than Python's own recursion."""
        deep = joined([P] * 4000)
        self.assertEqual(shown_cond(deep), " and ".join(["t.a = 1"] * 4000))
        expr = ONE
        for _ in range(3000):
            expr = ("add", expr, ("neg", TWO))
        self.assertEqual(shown_expr(expr), "1" + " + - 2" * 3000)


def chance_expr(chance, deep):
    if deep == 0 or chance.random() < 0.2:
        return chance.choice((ONE, TWO, A, ("col", "u", "b_1"), ("text", "x y"), ("text", ""),
                              ("agg", "count", None), ("agg", "sum", A)))
    tag = chance.choice(("add", "sub", "mul", "neg"))
    if tag == "neg":
        return (tag, chance_expr(chance, deep - 1))
    return (tag, chance_expr(chance, deep - 1), chance_expr(chance, deep - 1))


def chance_cond(chance, deep):
    if deep == 0 or chance.random() < 0.2:
        if chance.random() < 0.3:
            return ("null", chance_expr(chance, 2))
        op = chance.choice(("=", "<>", "<", "<=", ">", ">="))
        return ("cmp", op, chance_expr(chance, 1), chance_expr(chance, 1))
    tag = chance.choice(("not", "maybe", "and", "or", "and", "or", "exists", "in"))
    if tag in ("not", "maybe"):
        return (tag, chance_cond(chance, deep - 1))
    if tag == "exists":
        return (tag, (("from", ("named", "t"), "t", None),), chance.choice((None, chance_cond(chance, deep - 1))))
    if tag == "in":
        return (tag, chance_expr(chance, 1), read_question("select t.a from t u limit 1"))
    return (tag, chance_cond(chance, deep - 1), chance_cond(chance, deep - 1))


class RoundTest(helper.Case):
    """[20] over trees made by chance."""

    def test_exprs(self):
        chance = random.Random(5)
        for _ in range(600):
            tree = chance_expr(chance, 4)
            text = shown_expr(tree)
            if sum(text.count(sign) for sign in "+-*") <= 40 and len(text.replace(" ", "")) <= 3000:
                self.same(read_expr(text), tree)

    def test_conds(self):
        chance = random.Random(6)
        for _ in range(600):
            tree = chance_cond(chance, 4)
            text = shown_cond(tree)
            words = text.replace("(", " ( ").split()
            if sum(words.count(word) for word in ("+", "-", "*)", "*", "and", "or")) <= 40:
                self.same(read_cond(text), tree)
                self.same(members(joined(members(tree))), members(tree))

    def test_questions(self):
        for tree in helper.chance_questions(8, 300):
            text = shown(tree)
            self.same(read_question(text), tree)
            # more spaces between words change no tree
            for one in ("(", ")", "[", "]", ",", ".", "*"):
                text = text.replace(one, f"  {one} ")
            self.same(read_question(f"  {text} "), tree)

    def test_brackets_that_change_nothing(self):
        tree = read_question("select t.a + 1 as x from t where t.a = 1 and t.b is null group by t.a having 1 = 2")
        self.same(read_question("select (t.a) + (1) as x from t where [(t.a) = (1)] and [[(t.b) is null]] "
                                "group by t.a having [1 = (2)]"), tree)
        self.same(read_question("select (t.a + 1) as x from t where t.a = 1 and [t.b is null] group by t.a having 1 = 2"),
                  tree)

    def test_other_texts_have_other_trees(self):
        """Two texts have one tree exactly if their shown texts are the same."""
        found = {}
        for tree in helper.chance_questions(9, 300, 1):
            self.assertEqual(found.setdefault(shown(tree), tree), tree)
        self.assertEqual(len(set(found.values())), len(found))


if __name__ == "__main__":
    unittest.main()
