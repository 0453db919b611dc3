"""[15] conditions and questions."""

import unittest

import helper
from leastplans.errors import BadText, TooMuch
from leastplans.questionreading import cond_from, question_from, read_cond, read_question
from leastplans.reading import Reading
from leastplans.words import words_of

A, B, C = ("col", "t", "a"), ("col", "t", "b"), ("col", "t", "c")
ONE, TWO = ("num", 1), ("num", 2)
T = ("from", ("named", "t"), "t", None)
ITEM = ((A, "a"),)
NAMES = ("question", "withs", "distinct", "items", "sources", "where", "groups", "having", "orders", "limit")
PLAIN = dict(zip(NAMES, ("question", (), False, ITEM, (T,), None, (), None, (), None)))
INNER = tuple(PLAIN.values())


def asked(**parts):
    """The tree of "select t.a from t", but for these parts."""
    return tuple({**PLAIN, **parts}.values())


def eq(one, other):
    return ("cmp", "=", one, other)


class CondReadingTest(helper.Case):

    def test_trees(self):
        p, q, r = eq(A, ONE), eq(B, ONE), eq(C, ONE)
        self.every((
            ("t.a = 1", p),
            ("t.a <> 1", ("cmp", "<>", A, ONE)),
            ("t.a < 1", ("cmp", "<", A, ONE)),
            ("t.a <= 1", ("cmp", "<=", A, ONE)),
            ("t.a > 1", ("cmp", ">", A, ONE)),
            ("t.a >= 1", ("cmp", ">=", A, ONE)),
            ("1 + 2 = - t.a * 2", eq(("add", ONE, TWO), ("mul", ("neg", A), TWO))),
            ("t.a is null", ("null", A)),
            ("t.a is not null", ("not", ("null", A))),
            ("not t.a is null", ("not", ("null", A))),
            ("not t.a is not null", ("not", ("not", ("null", A)))),
            ("1 + 2 is null", ("null", ("add", ONE, TWO))),
            ("t.a in (select t.a from t)", ("in", A, INNER)),
            ("t.a not in (select t.a from t)", ("not", ("in", A, INNER))),
            ("not t.a not in (select t.a from t)", ("not", ("not", ("in", A, INNER)))),
            ("exists (from t)", ("exists", (T,), None)),
            ("exists (from t where t.a = 1)", ("exists", (T,), p)),
            ("not exists (from t)", ("not", ("exists", (T,), None))),
            ("not t.a = 1", ("not", p)),
            ("maybe t.a = 1", ("maybe", p)),
            ("not maybe not t.a = 1", ("not", ("maybe", ("not", p)))),
            ("[t.a = 1]", p),
            ("[[t.a = 1]]", p),
            ("t.a = 1 and t.b = 1", ("and", p, q)),
            ("t.a = 1 or t.b = 1", ("or", p, q)),
            ("t.a = 1 and t.b = 1 and t.c = 1", ("and", ("and", p, q), r)),
            ("t.a = 1 and [t.b = 1 and t.c = 1]", ("and", p, ("and", q, r))),
            ("t.a = 1 or t.b = 1 or t.c = 1", ("or", ("or", p, q), r)),
            ("t.a = 1 or t.b = 1 and t.c = 1", ("or", p, ("and", q, r))),
            ("t.a = 1 and t.b = 1 or t.c = 1", ("or", ("and", p, q), r)),
            ("[t.a = 1 or t.b = 1] and t.c = 1", ("and", ("or", p, q), r)),
            ("not t.a = 1 and t.b = 1", ("and", ("not", p), q)),
            ("not [t.a = 1 and t.b = 1]", ("not", ("and", p, q))),
            ("maybe t.a = 1 or t.b = 1", ("or", ("maybe", p), q)),
            ("sum (t.a) = 1", eq(("agg", "sum", A), ONE)),
        ), lambda text, tree: self.same(read_cond(text), tree))

    def test_first_word_that_cannot_stand(self):
        self.every((
            ("1", 1), ("1 1", 2), ("1 =", 3), ("1 = = 2", 4), ("1 = 2 = 3", 6), ("= 1", 0), ("(1 = 2)", 3),
            ("[1 = 2", 6), ("[1 = 2)", 6), ("[1]", 2), ("[]", 1), ("1 = 2]", 5), ("not", 3), ("not and", 4),
            ("not not", 7), ("maybe )", 6), ("1 = 2 and", 9), ("1 = 2 and or", 10), ("1 = 2 not", 6),
            ("1 is", 4), ("1 is 2", 5), ("1 is not 2", 9), ("1 is null null", 10), ("1 is null is null", 10),
            ("1 not null", 6), ("1 not = 2", 6), ("1 not", 5), ("1 in", 4), ("1 in 2", 5), ("1 in (1)", 6),
            ("1 in (from t)", 6), ("1 not in [", 9), ("exists", 6), ("exists t", 7), ("exists (select", 8),
            ("exists (from t", 14), ("exists (from t t t)", 17), ("exists (from t group", 15),
            ("exists (from t where)", 20), ("exists [from t]", 7), ("1 = 2 where", 6), ("1 = 2 , 3", 6),
            ("[1 = 2] + 1", 8), ("1 = [2]", 4), ("exists (from t limit 1)", 15), ("a", 1), ("select", 0),
        ), lambda text, at: self.refused(BadText(at), read_cond, text))

    def test_depth(self):
        for head, tail in (("not ", ""), ("maybe ", ""), ("[", "]")):
            read_cond(head * 20 + "1 = 2" + tail * 20)
            self.refused(TooMuch("depth"), read_cond, head * 21 + "1 = 2" + tail * 21)
        exists, tail = "exists (from t where ", ")"
        read_cond(exists * 20 + "1 = 2" + tail * 20)
        self.refused(TooMuch("depth"), read_cond, exists * 20 + "exists (")
        # it is the ( of an exists that opens, not the exists
        self.refused(BadText(len(exists * 20) + 7), read_cond, exists * 20 + "exists [")
        mixed = "not [maybe exists (from t where " * 5
        read_cond(mixed + "1 = 2" + ")]" * 5)
        self.refused(TooMuch("depth"), read_cond, mixed + "not 1 = 2" + ")]" * 5)
        self.refused(TooMuch("depth"), read_cond, mixed + "- 1 = 2" + ")]" * 5)

    def test_what_is_ruled(self):
        deep = "[" * 19
        tail = "]" * 19
        for text in (
            "not 1 = 2 and not 1 = 2", "maybe 1 = 2 or maybe 1 = 2", "[1 = 2] and [1 = 2]",
            "exists (from t) and exists (from t)", "- 1 = - 1", "(1) = (2)", "1 = - 1 and not 1 = 2",
            "not 1 is not null", "not 1 not in (select t.a from t)",
        ):
            read_cond(deep + text + tail)
        for text in (
            "not [1 = 2]", "not - 1 = 2", "not (1) = 2", "not 1 = - 2", "[- 1 = 2]", "not not 1 = 2",
            "maybe not 1 = 2", "not exists (from t)", "exists (from t where not 1 = 2)", "(- 1) = 2",
            "- (1) = 2", "not 1 in (select - t.a as x from t)", "[1 = 2 and [1 = 2]]",
            "exists (from t join s on - 1 = 2)", "exists (from (select (t.a) as x from t) u)",
        ):
            self.refused(TooMuch("depth"), read_cond, deep + text + tail)
        # is not and not in open nothing
        read_cond("[" * 20 + "1 is not null and 1 not in (select t.a from t)" + "]" * 20)

    def test_questions_within(self):
        def within(many):
            return "1 in (select t.a from t where " * many + "1 = 2" + ")" * many
        read_cond(within(3))
        self.refused(TooMuch("depth"), read_cond, within(4))
        self.refused(TooMuch("depth"), read_cond, "1 in (select t.a from t where " * 3 + "1 not in ( 7")
        self.refused(BadText(95), read_cond, "1 in (select t.a from t where " * 3 + "1 in 7")
        # three one beside the other are let, and an exists is none
        read_cond(" and ".join([within(3)] * 3))
        read_cond("exists (from t where " + within(3) + ")")

    def test_aggs_of_the_text(self):
        four = "sum (t.a) + min (t.a) + max (t.a) + count (t.a) = 1"
        read_cond(f"{four} and exists (from t where {four})")
        self.refused(TooMuch("aggs"), read_cond, f"{four} and exists (from t where count (*) = 1)")
        self.refused(TooMuch("aggs"), read_cond, f"exists (from t where {four}) and count (*) = 1")
        read_cond(f"{four} and 1 in (select count (*) as x from t)")
        read_cond(f"1 in (select count (*) as x from t where {four.replace('t.a', 't.b').replace('count (t.b)', '1')})"
                  f" and {four}")

    def test_from_the_middle(self):
        def check(text, at, tree, left):
            reading = Reading(words_of(text))
            reading.at = at
            self.same(cond_from(reading=reading), tree)
            self.same(reading.look()[1], left)
            self.same((reading.opened, reading.deep), (0, 0))
        p = eq(ONE, TWO)
        self.every((
            ("1 = 2", 0, p, None), ("where 1 = 2 group", 1, p, "group"), ("[1 = 2] and 1 = 2", 1, p, "]"),
            ("1 = 2 not", 0, p, "not"), ("1 = 2 and not 1 = 2 )", 0, ("and", p, ("not", p)), ")"),
            ("1 is null null", 0, ("null", ONE), "null"), ("1 = 2 + 1 , 7", 0, eq(ONE, ("add", TWO, ONE)), ","),
            ("exists (from t) left", 0, ("exists", (T,), None), "left"), ("[1 = 2] [", 0, p, "["),
            ("1 in (select t.a from t) in", 0, ("in", ONE, INNER), "in"), ("1 = 2 = 3", 0, p, "="),
        ), check)


class QuestionReadingTest(helper.Case):

    def test_trees(self):
        p = eq(A, ONE)
        s = ("named", "s")
        self.every((
            ("select t.a from t", {}),
            ("select distinct t.a from t", {"distinct": True}),
            ("select t.a, t.b as x, 1 as y from t", {"items": ((A, "a"), (B, "x"), (ONE, "y"))}),
            ("select t.a as a from t", {}),
            ("select (t.a) as a from t", {}),
            ("select (t.a) as x from t", {"items": ((A, "x"),)}),
            ("select t.a + 1 as x from t", {"items": ((("add", A, ONE), "x"),)}),
            ("select count (*) as n from t", {"items": ((("agg", "count", None), "n"),)}),
            ("select t.a from t t", {}),
            ("select t.a from t u", {"sources": (("from", ("named", "t"), "u", None),)}),
            ("select t.a from t, s", {"sources": (T, ("cross", s, "s", None))}),
            ("select t.a from t join s on t.a = 1", {"sources": (T, ("join", s, "s", p))}),
            ("select t.a from t left join s u on t.a = 1", {"sources": (T, ("left", s, "u", p))}),
            ("select t.a from t join s on t.a = 1 left join s u on 1 = t.a, s v",
             {"sources": (T, ("join", s, "s", p), ("left", s, "u", eq(ONE, A)), ("cross", s, "v", None))}),
            ("select t.a from (select t.a from t) t", {"sources": (("from", INNER, "t", None),)}),
            ("select t.a from t, (select t.a from t) u", {"sources": (T, ("cross", INNER, "u", None))}),
            ("select t.a from t where t.a = 1", {"where": p}),
            ("select t.a from t group by t.a", {"groups": (A,)}),
            ("select t.a from t group by t.a, t.b, t.a", {"groups": (A, B, A)}),
            ("select t.a from t having t.a = 1", {"having": p}),
            ("select t.a from t order by a", {"orders": (("a", "asc"),)}),
            ("select t.a from t order by a asc, b desc, c", {"orders": (("a", "asc"), ("b", "desc"), ("c", "asc"))}),
            ("select t.a from t limit 0", {"limit": 0}),
            ("select t.a from t limit 999999999", {"limit": 999999999}),
            ("with x as (select t.a from t) select t.a from t", {"withs": (("x", INNER),)}),
            ("with x as (select t.a from t), y as (select t.a from t limit 3) select t.a from t",
             {"withs": (("x", INNER), ("y", asked(limit=3)))}),
            ("with x as (select t.a from t) select distinct t.a, t.b from t, s where t.a = 1 group by t.a "
             "having t.a = 1 order by a desc limit 7",
             {"withs": (("x", INNER),), "distinct": True, "items": ((A, "a"), (B, "b")),
              "sources": (T, ("cross", s, "s", None)), "where": p, "groups": (A,), "having": p,
              "orders": (("a", "desc"),), "limit": 7}),
        ), lambda text, parts: self.same(read_question(text), asked(**parts)))

    def test_example(self):
        self.same(read_question("select t.a from t, s u"), (
            "question", (), False, ((("col", "t", "a"), "a"),),
            (("from", ("named", "t"), "t", None), ("cross", ("named", "s"), "u", None)),
            None, (), None, (), None))

    def test_first_word_that_cannot_stand(self):
        self.every((
            ("select", 6), ("from t", 0), ("t.a", 0), ("(select t.a from t)", 0), ("select from t", 7),
            ("select distinct", 15), ("select distinct distinct", 16), ("select * from t", 7),
            ("select (t.a) from t", 13), ("select 1 from t", 9), ("select count (*) from t", 17),
            ("select t.a x from t", 11), ("select t.a as 7", 14), ("select t.a as from", 14), ("select t.a,", 11),
            ("select t.a, from", 12), ("select t.a + 1, t.b from t", 14), ("select t.a where", 11),
            ("select - t.a from t", 13), ("select t.a", 10), ("select t.a from", 15), ("select t.a from 7", 16),
            ("select t.a from t as u", 18), ("select t.a from t u v", 20), ("select t.a from t,", 18),
            ("select t.a from t, , s", 19), ("select t.a from t, join", 19), ("select t.a from (t)", 17),
            ("select t.a from (select t.a from t)", 35), ("select t.a from (select t.a from t) where", 36),
            ("select t.a from t join", 22), ("select t.a from t join s", 24), ("select t.a from t join s, u", 24),
            ("select t.a from t join s on", 27), ("select t.a from t left s", 23), ("select t.a from t left left", 23),
            ("select t.a from t left join s where", 30), ("select t.a from t where", 23),
            ("select t.a from t where 1", 25), ("select t.a from t where where", 24),
            ("select t.a from t where 1 = 1 where", 30), ("select t.a from t group", 23),
            ("select t.a from t group t.a", 24), ("select t.a from t group by", 26),
            ("select t.a from t group by 1", 27), ("select t.a from t group by (t.a)", 27),
            ("select t.a from t group by t.a,", 31), ("select t.a from t group by t.a + 1", 31),
            ("select t.a from t group by t.a where", 31), ("select t.a from t having", 24),
            ("select t.a from t having 1 = 1 group", 31), ("select t.a from t order a", 24),
            ("select t.a from t order by", 26), ("select t.a from t order by t.a", 28),
            ("select t.a from t order by 1", 27), ("select t.a from t order by a asc desc", 33),
            ("select t.a from t order by a b", 29), ("select t.a from t order by a having", 29),
            ("select t.a from t limit", 23), ("select t.a from t limit a", 24), ("select t.a from t limit - 1", 24),
            ("select t.a from t limit 1 2", 26), ("select t.a from t limit 1 order", 26), ("select t.a from t )", 18),
            ("with select", 5), ("with x select", 7), ("with x as select", 10), ("with x as (t)", 11),
            ("with x as (select t.a from t", 28), ("with x as (select t.a from t) from", 30),
            ("with x as (select t.a from t),", 30), ("with x as (select t.a from t), select", 31),
            ("with x as (select t.a from t) with", 30), ("with as (", 5), ("select t.a from t or", 18),
            ("select 1 + 2 from t", 13), ("select 1 - t.a from t", 15), ("select count (*) * 2, t.a from t", 20),
            ("select t.a from t 'join' s on 1 = 1", 18), ("select t.a from t where t.a '=' 1", 28),
            ("select t.a from t where 'not' t.a = 1", 30), ("select t.a from t order by a 'desc'", 29),
        ), lambda text, at: self.refused(BadText(at), read_question, text))

    def lists(self, head, one, comma, tail, what, most):
        def text(many):
            return head + comma.join(one.replace("#", str(number)) for number in range(many)) + tail
        read_question(text(most))
        self.refused(TooMuch(what), read_question, text(most + 1))
        # the comma itself passes the bound, whatever comes behind it
        short = head + comma.join([one.replace("#", "0")] * most)
        self.refused(TooMuch(what), read_question, short + comma)
        self.refused(TooMuch(what), read_question, short + comma + " ) +")

    def test_lists(self):
        self.lists("select ", "t.a as x#", ", ", " from t", "items", 8)
        self.lists("select t.a from t group by ", "t.x#", ", ", "", "groups", 8)
        self.lists("select t.a from t order by ", "x# desc", ", ", "", "orders", 8)
        self.lists("select t.a from ", "t x#", ", ", "", "sources", 8)
        self.lists("with ", "x# as (select t.a from t)", ", ", " select t.a from t", "withs", 4)

    def test_sources(self):
        eight = "select t.a from t" + ", t x" * 3 + " join t y on 1 = 2" * 2 + " left join t z on 1 = 2" * 2
        read_question(eight)
        for more in (",", "join", "left", ", t", "join join", "left t"):
            self.refused(TooMuch("sources"), read_question, f"{eight} {more}")
        self.refused(BadText(len(eight) + 1), read_question, f"{eight} on")
        inner = "from t" + ", t x" * 7
        read_question(f"select t.a {inner} where exists ({inner}) and 1 in (select t.a {inner})")
        self.refused(TooMuch("sources"), read_question, f"select t.a from t where exists ({inner}, t)")
        self.refused(TooMuch("sources"), read_question, f"select t.a from (select t.a {inner}, t")

    def test_questions_within(self):
        def within(many):
            return "select t.a from (" * many + "select t.a from t" + ") t" * many
        read_question(within(2))
        self.refused(TooMuch("depth"), read_question, within(3))
        text = "select t.a from (select t.a from (select t.a from t where 1 = 2 and 1 in ("
        self.refused(TooMuch("depth"), read_question, text)
        text = "with x as (with y as (with z as ("
        self.refused(TooMuch("depth"), read_question, text)
        read_question(f"with x as ({within(1)}), y as ({within(1)}) select t.a from ({within(1)}) u, ({within(1)}) v")
        read_question("select t.a from t where " + "exists (from t where " * 20 + "1 = 2" + ")" * 20)

    def test_what_is_open_goes_on_within(self):
        text = "select t.a from t where " + "[" * 10 + "1 in (select t.a from t where {} )" + "]" * 10
        read_question(text.format("[" * 10 + "1 = 2" + "]" * 10))
        self.refused(TooMuch("depth"), read_question, text.format("[" * 11 + "1 = 2" + "]" * 11))
        # the brackets of a question are not among them
        read_question("select t.a from t where " + "[" * 20 + "1 in (select t.a from (select t.a from t) t)" + "]" * 20)

    def test_aggs(self):
        four = "sum (t.a) + min (t.a) + max (t.a) + count (t.a)"
        head = f"select {four} as x"
        read_question(f"{head}, count (t.a) as y from t having sum (t.a) = 1")
        for tail in (
            ", count (*) as y from t", " from t having count (*) = 1", " from t where count (*) = 1",
            " from t join t on count (*) = 1", " from t where exists (from t where count (*) = 1)",
            " from t where exists (from t join t on count (*) = 1)", " from t where count (*) in (select t.a from t)",
        ):
            self.refused(TooMuch("aggs"), read_question, head + tail)
        for tail in (
            " from (select count (*) as y from t) t", " from t where 1 in (select count (*) as y from t)",
        ):
            read_question(head + tail)
        read_question(f"with x as (select count (*) as y from t) {head} from t")
        inner = f"(select {four.replace('t.', 's.')} as x from s)"
        read_question(f"{head} from {inner} t where 1 in {inner}")
        self.refused(TooMuch("aggs"), read_question, f"{head} from {inner} t having count (*) = 1")
        self.refused(TooMuch("aggs"), read_question, f"{head} from (select {four} + count (*) as x from t) t")
        exists = f"exists (from t where {four} = 1)"
        self.refused(TooMuch("aggs"), read_question, f"select t.a from t where {exists} having count (*) = 1")
        self.refused(TooMuch("aggs"), read_question, f"select t.a from t where {exists} and exists (from t where "
                     "[count (*)")

    def test_too_much_and_bad_text(self):
        """What comes first from the left is told."""
        items = ", ".join(["t.a"] * 9)
        self.refused(TooMuch("items"), read_question, f"select {items} from")
        self.refused(BadText(16), read_question, f"select t.a from )( select {items}")
        self.refused(BadText(7), read_question, f"select , {items}")
        self.refused(TooMuch("items"), read_question, f"select {items} from t group by {items}")
        groups = "select t.a from t group by " + items
        self.refused(TooMuch("groups"), read_question, groups + " order by " + items)
        self.refused(BadText(27), read_question, "select t.a from t group by , t.a")
        orders = ", ".join(["a"] * 9)
        self.refused(TooMuch("orders"), read_question, "select t.a from t order by " + orders + " limit x")
        # the signs are counted ahead of all this, but behind what cannot be cut
        self.refused(TooMuch("signs"), read_question, f"select {items} from" + " +" * 41)
        self.refused(BadText(0), read_question, "! select" + " +" * 41)

    def test_from_the_middle(self):
        def check(text, at, tree, left):
            reading = Reading(words_of(text))
            reading.at = at
            self.same(question_from(reading=reading), tree)
            self.same(reading.look()[1], left)
            self.same((reading.opened, reading.deep, reading.aggs), (0, 0, ()))
        self.every((
            ("select t.a from t", 0, INNER, None),
            ("(select t.a from t) u", 1, INNER, ")"),
            ("select t.a from t t t", 0, INNER, "t"),
            ("select t.a from t limit 3 limit 4", 0, asked(limit=3), "limit"),
            ("select t.a from t limit 3 where", 0, asked(limit=3), "where"),
            ("select t.a from t group by t.a where", 0, asked(groups=(A,)), "where"),
            ("select t.a from t order by a asc asc", 0, asked(orders=(("a", "asc"),)), "asc"),
            ("select t.a from t where 1 = 2 ]", 0, asked(where=eq(ONE, TWO)), "]"),
            ("select t.a from t select", 0, INNER, "select"),
            ("select t.a from t on", 0, INNER, "on"),
            ("select count (*) as a from t )", 0, asked(items=((("agg", "count", None), "a"),)), ")"),
        ), check)

    def test_from_the_middle_refused(self):
        reading = Reading(words_of("t.a = (select t.a from"))
        self.refused(BadText(0), question_from, reading)
        reading.at = 5
        self.refused(BadText(22), question_from, reading)
        for text, at in (("select t.a from t left", 22), ("select t.a from t,", 18), ("select t.a from t order", 23)):
            self.refused(BadText(at), question_from, Reading(words_of(text)))


if __name__ == "__main__":
    unittest.main()
