"""[18] [19] [20] members, height, columns and aggs of trees."""

import unittest

import helper
from leastplans.columnsin import aggs_in, columns_in, replaced
from leastplans.questionreading import read_cond, read_question
from leastplans.trees import height, joined, members

A, B, C = ("col", "t", "a"), ("col", "t", "b"), ("col", "u", "a")
ONE = ("num", 1)
P, Q, R, S = (("cmp", "=", A, ("num", number)) for number in range(4))
QUESTION = read_question("select t.z from t where t.y = 1")
EXISTS = ("exists", (("join", ("named", "t"), "t", ("null", ("col", "t", "x"))),), ("null", ("col", "t", "w")))
SUM, COUNT, STAR = ("agg", "sum", A), ("agg", "count", B), ("agg", "count", None)


class MembersTest(helper.Case):

    def test_members(self):
        either = ("or", ("and", P, Q), R)
        self.every((
            (None, ()), (P, (P,)), (("and", P, Q), (P, Q)), (("and", P, P), (P, P)),
            (("and", ("and", P, Q), R), (P, Q, R)), (("and", P, ("and", Q, R)), (P, Q, R)),
            (("and", ("and", P, Q), ("and", R, S)), (P, Q, R, S)),
            (("and", P, ("and", ("and", Q, R), S)), (P, Q, R, S)),
            (either, (either,)), (("and", either, P), (either, P)),
            (("not", ("and", P, Q)), (("not", ("and", P, Q)),)), (EXISTS, (EXISTS,)),
            (("maybe", ("and", P, Q)), (("maybe", ("and", P, Q)),)),
            (("and", ("in", A, QUESTION), EXISTS), (("in", A, QUESTION), EXISTS)),
        ), lambda cond, told: self.same(members(cond=cond), told))

    def test_joined(self):
        self.every((
            ((), None), ((P,), P), ((P, Q), ("and", P, Q)), ((P, Q, R), ("and", ("and", P, Q), R)),
            ((P, P, P, P), ("and", ("and", ("and", P, P), P), P)), ((("or", P, Q), R), ("and", ("or", P, Q), R)),
            ((("and", P, Q), R), ("and", ("and", P, Q), R)), ((P, ("and", Q, R)), ("and", P, ("and", Q, R))),
        ), lambda conds, told: self.same(joined(conds=conds), told))

    def test_consequences(self):
        for many in range(7):
            told = (P, ("or", Q, R), EXISTS, ("not", ("and", P, Q)), S, P)[:many]
            self.same(members(joined(told)), told)
        for cond in (None, P, ("and", P, ("and", Q, R)), ("and", ("and", P, ("and", Q, R)), S)):
            self.same(members(joined(members(cond))), members(cond))
            self.same(members(joined(members(cond))), members(cond))

    def test_deep(self):
        many = 5000
        left = joined((P,) * many)
        self.assertEqual(len(members(left)), many)
        self.assertEqual(height(left), many + 1)
        right = P
        for _ in range(many):
            right = ("and", P, right)
        self.assertEqual(len(members(right)), many + 1)
        self.same(columns_in(left), (A,))
        self.same(aggs_in(right), ())
        changed = replaced(left, {A: STAR})
        self.assertEqual(height(changed), many + 1)
        self.same(aggs_in(changed), (STAR,))
        self.same(columns_in(changed), ())

    def test_height(self):
        mark = ("mark", 3)
        self.every((
            (None, 0), (ONE, 1), (("text", ""), 1), (A, 1), (mark, 1), (("agg", 0), 1), (STAR, 1), (SUM, 1),
            (("neg", ONE), 2), (("add", ONE, ("neg", ONE)), 3), (("sub", ("neg", ONE), ONE), 3),
            (("mul", ("neg", ONE), ("neg", ("neg", ONE))), 4), (P, 2), (("cmp", "<", ONE, ("neg", SUM)), 3),
            (("cmp", "<", ("neg", SUM), ONE), 3), (("null", A), 2), (("null", ("neg", A)), 3), (("not", P), 3),
            (("maybe", ("not", P)), 4), (("and", P, ("not", P)), 4), (("or", ("not", P), P), 4), (EXISTS, 1),
            (("not", EXISTS), 2), (("in", A, QUESTION), 2), (("in", ("neg", A), QUESTION), 3),
            (("and", EXISTS, ("in", A, QUESTION)), 3),
        ), lambda thing, told: self.same(height(thing=thing), told))


class ColumnsInTest(helper.Case):

    def test_columns_in(self):
        raw = ("col", 0, 1)
        self.every((
            (None, ()), (ONE, ()), (("text", "t.a"), ()), (A, (A,)), (raw, (raw,)), (SUM, (A,)), (STAR, ()),
            (("agg", 0), ()), (("agg", "sum", raw), (raw,)), (("mark", 1), ()),
            (("add", B, A), (B, A)), (("add", A, A), (A,)), (("sub", SUM, B), (A, B)), (("mul", ("neg", C), COUNT), (C, B)),
            (("cmp", "=", C, ("add", A, C)), (C, A)), (("null", B), (B,)), (("not", ("null", B)), (B,)),
            (("maybe", P), (A,)), (("and", ("null", C), ("or", ("null", B), P)), (C, B, A)),
            (EXISTS, ()), (("not", EXISTS), ()), (("in", B, QUESTION), (B,)),
            (("and", ("and", EXISTS, ("in", ("add", C, B), QUESTION)), P), (C, B, A)),
            (("add", ("add", A, B), ("add", B, C)), (A, B, C)),
        ), lambda thing, told: self.same(columns_in(thing=thing), told))

    def test_aggs_in(self):
        self.every((
            (None, ()), (ONE, ()), (A, ()), (SUM, (SUM,)), (STAR, (STAR,)), (("agg", 3), (("agg", 3),)),
            (("add", STAR, SUM), (STAR, SUM)), (("add", SUM, ("neg", SUM)), (SUM,)),
            (("cmp", "=", COUNT, ("mul", STAR, COUNT)), (COUNT, STAR)), (("null", SUM), (SUM,)),
            (("and", ("not", ("null", STAR)), ("or", ("maybe", ("null", SUM)), ("null", STAR))), (STAR, SUM)),
            (("exists", (), ("null", SUM)), ()), (("in", SUM, read_question("select count (*) as n from t")), (SUM,)),
        ), lambda thing, told: self.same(aggs_in(thing=thing), told))

    def test_replaced(self):
        one, two = ("num", 1), ("mark", 2)
        deep = ("add", A, ("neg", B))
        self.every((
            (None, {}, None), (None, {A: one}, None), (A, {}, A), (A, {A: one}, one), (A, {B: one}, A),
            (("add", A, B), {A: one}, ("add", one, B)), (("sub", A, B), {A: B, B: A}, ("sub", B, A)),
            (("mul", A, A), {A: deep}, ("mul", deep, deep)), (A, {A: deep, B: one}, deep),
            (SUM, {SUM: ("agg", 0)}, ("agg", 0)), (SUM, {A: two}, ("agg", "sum", two)), (SUM, {B: two}, SUM),
            (("add", SUM, A), {A: one, SUM: ("agg", 0)}, ("add", ("agg", 0), one)),
            (("add", SUM, COUNT), {A: one, COUNT: ("agg", 1)}, ("add", ("agg", "sum", one), ("agg", 1))),
            (STAR, {STAR: one}, one), (STAR, {A: one}, STAR), (("agg", 1), {("agg", 1): one}, one),
            (("agg", 0), {A: one}, ("agg", 0)), (("agg", "sum", ("col", 0, 1)), {("col", 0, 1): ("col", 2, 3)},
                                                 ("agg", "sum", ("col", 2, 3))),
            (("neg", A), {A: one}, ("neg", one)), (("cmp", "<", A, B), {B: one}, ("cmp", "<", A, one)),
            (("null", A), {A: one}, ("null", one)), (("not", ("null", A)), {A: one}, ("not", ("null", one))),
            (("maybe", ("null", A)), {A: one}, ("maybe", ("null", one))),
            (("and", ("null", A), ("or", ("null", B), ("null", A))), {A: one},
             ("and", ("null", one), ("or", ("null", B), ("null", one)))),
            (EXISTS, {("col", "t", "x"): one, ("col", "t", "w"): one}, EXISTS),
            (("in", A, QUESTION), {A: one, ("col", "t", "z"): one}, ("in", one, QUESTION)),
            (ONE, {A: one}, ONE), (("text", "a"), {A: one}, ("text", "a")), (("mark", 1), {A: one}, ("mark", 1)),
        ), lambda thing, table, told: self.same(replaced(thing=thing, table=table), told))

    def test_nothing_is_changed(self):
        table = {A: ("num", 1), SUM: ("agg", 0)}
        before = dict(table)
        thing = ("add", SUM, A)
        self.same(replaced(thing, table), ("add", ("agg", 0), ("num", 1)))
        self.assertEqual(table, before)
        self.assertEqual(thing, ("add", ("agg", "sum", ("col", "t", "a")), ("col", "t", "a")))

    def test_of_read_trees(self):
        cond = read_cond("t.b + sum (t.a) * u.a = 1 and t.a in (select s.c from s) and exists (from s where s.d = t.e)")
        self.same(columns_in(cond), (B, A, C))
        self.same(aggs_in(cond), (SUM,))


if __name__ == "__main__":
    unittest.main()
