"""[14] expressions."""

import unittest

import helper
from leastplans.errors import BadText, TooMuch
from leastplans.exprreading import expr_from, read_expr
from leastplans.reading import Reading
from leastplans.words import words_of

A = ("col", "t", "a")
B = ("col", "t", "b")
ONE, TWO, THREE = ("num", 1), ("num", 2), ("num", 3)


class ExprReadingTest(helper.Case):

    def test_trees(self):
        self.every((
            ("7", ("num", 7)),
            ("0", ("num", 0)),
            ("'x y'", ("text", "x y")),
            ("''", ("text", "")),
            ("t.a", A),
            ("t . a", A),
            ("count(*)", ("agg", "count", None)),
            ("count ( * )", ("agg", "count", None)),
            ("count (t.a)", ("agg", "count", A)),
            ("sum (t.a)", ("agg", "sum", A)),
            ("min (t.a)", ("agg", "min", A)),
            ("max (t.a)", ("agg", "max", A)),
            ("- t.a", ("neg", A)),
            ("- - t.a", ("neg", ("neg", A))),
            ("(t.a)", A),
            ("(((1)))", ONE),
            ("1 + 2", ("add", ONE, TWO)),
            ("1 - 2", ("sub", ONE, TWO)),
            ("1 * 2", ("mul", ONE, TWO)),
            ("1 + 2 + 3", ("add", ("add", ONE, TWO), THREE)),
            ("1 - 2 - 3", ("sub", ("sub", ONE, TWO), THREE)),
            ("1 - (2 - 3)", ("sub", ONE, ("sub", TWO, THREE))),
            ("1 * 2 * 3", ("mul", ("mul", ONE, TWO), THREE)),
            ("1 * (2 * 3)", ("mul", ONE, ("mul", TWO, THREE))),
            ("1 + 2 * 3", ("add", ONE, ("mul", TWO, THREE))),
            ("1 * 2 + 3", ("add", ("mul", ONE, TWO), THREE)),
            ("(1 + 2) * 3", ("mul", ("add", ONE, TWO), THREE)),
            ("- 1 * 2", ("mul", ("neg", ONE), TWO)),
            ("- (1 * 2)", ("neg", ("mul", ONE, TWO))),
            ("1 * - 2", ("mul", ONE, ("neg", TWO))),
            ("1 - - 2", ("sub", ONE, ("neg", TWO))),
            ("1--2", ("sub", ONE, ("neg", TWO))),
            ("- 1 + 2", ("add", ("neg", ONE), TWO)),
            ("2 - t.a * - 3 - 1", ("sub", ("sub", TWO, ("mul", A, ("neg", THREE))), ONE)),
        ), lambda text, tree: self.same(read_expr(text), tree))

    def test_first_word_that_cannot_stand(self):
        self.every((
            ("(t.a", 4), ("t.a 1", 4), (" ", 1), ("t", 1), ("t.", 2), ("t.7", 2), ("t.select", 2),
            ("t..a", 2), ("select", 0), ("and", 0), (")", 0), ("*", 0), ("+ 1", 0), ("1 +", 3),
            ("1 + + 2", 4), ("1 *", 3), ("1 * + 2", 4), ("()", 1), ("(1))", 3), ("(1 2)", 3),
            ("[1]", 0), ("count", 5), ("count *", 6), ("count (", 7), ("count ()", 7),
            ("count (*", 8), ("count (* *)", 9), ("count (7)", 7), ("count (t)", 8), ("count (t.a", 10),
            ("count (t.a + 1)", 11), ("sum (*)", 5), ("min (*)", 5), ("max ((t.a))", 5), ("sum t.a", 4),
            ("sum (- t.a)", 5), ("avg (t.a)", 4), ("- ", 2), ("-)", 1), ("1 = 2", 2), ("t.a.b", 3),
            ("1 'x'", 2), ("7.a", 1), ("'x'.a", 3), ("t.a as x", 4), ("not 1", 0), ("1 '+' 2", 2), ("1 '*' 2", 2), ("'-' 1", 4), ("'count' (*)", 8), ("t.'a'", 2),
        ), lambda text, at: self.refused(BadText(at), read_expr, text))

    def test_what_words_raise_goes_first(self):
        self.refused(BadText(0), read_expr, "")
        self.refused(BadText(4), read_expr, ") + !")
        self.refused(TooMuch("signs"), read_expr, ") " + "+" * 41)

    def test_depth(self):
        for word, end in (("(", ")"), ("-", "")):
            deep = word + " "
            self.assertEqual(read_expr(deep * 20 + "1" + end * 20)[0], "num" if end else "neg")
            self.refused(TooMuch("depth"), read_expr, deep * 21 + "1" + end * 21)
        self.refused(TooMuch("depth"), read_expr, "( - " * 10 + "- 1" + ")" * 10)
        read_expr("( - " * 10 + "1" + ")" * 10)
        # what is closed no longer counts
        self.assertEqual(read_expr("- 1" + " * - 1" * 18)[0], "mul")
        self.assertEqual(read_expr("(1)" + " + (1)" * 39)[0], "add")
        read_expr("(" * 19 + "- 1 + (2)" + ")" * 19)
        read_expr("(" * 19 + "(1) + - 2" + ")" * 19)
        self.refused(TooMuch("depth"), read_expr, "(" * 19 + "- (1)" + ")" * 19)
        # the brackets of an agg open nothing
        read_expr("(" * 20 + "count (*) + sum (t.a)" + ")" * 20)

    def test_depth_beside_what_cannot_stand(self):
        self.refused(TooMuch("depth"), read_expr, "(" * 21)
        self.refused(BadText(20), read_expr, "(" * 20 + ")(")
        self.refused(BadText(2), read_expr, "1 " + "(" * 30)
        self.refused(TooMuch("depth"), read_expr, "(" * 21 + "]")

    def test_aggs(self):
        four = "sum (t.a) + min (t.a) + max (t.a) + count (t.a)"
        read_expr(four)
        read_expr(four + " + sum (t.a) + count (t.a)")
        for more in ("count (*)", "sum (t.b)", "sum (s.a)", "min (t.b)"):
            self.refused(TooMuch("aggs"), read_expr, f"{four} + {more}")
        self.refused(TooMuch("aggs"), read_expr, f"{four} + count (*) )")
        self.refused(TooMuch("aggs"), read_expr, f"({four} + count (*)")
        # it is told at its ) and not before
        self.refused(BadText(len(four) + 11), read_expr, f"{four} + count (*")
        self.refused(BadText(len(four) + 12), read_expr, f"{four} + count (* + 1)")
        self.refused(BadText(len(four) + 10), read_expr, f"{four} + count (]")
        self.refused(TooMuch("depth"), read_expr, f"{four} + {'(' * 21} count (*)")
        self.refused(TooMuch("aggs"), read_expr, f"{four} + {'(' * 20} count (*) + (1")

    def from_middle(self, text, at, tree, left):
        reading = Reading(words_of(text))
        reading.at = at
        self.same(expr_from(reading=reading), tree)
        self.same(reading.look(), left)
        self.same((reading.opened, reading.deep), (0, 0))

    def test_from_the_middle(self):
        end = ("end", None)
        self.from_middle("t.a", 0, A, end)
        self.from_middle("select t.a from", 1, A, ("word", "from"))
        self.from_middle("+ 1 + 2 , 3", 1, ("add", ONE, TWO), ("sign", ","))
        self.from_middle("(1 + 2)) * 3", 0, ("add", ONE, TWO), ("sign", ")"))
        self.from_middle("(1 + 2) * 3", 1, ("add", ONE, TWO), ("sign", ")"))
        self.from_middle("1 2", 0, ONE, ("number", 2))
        self.from_middle("1 - - t.a 'x'", 0, ("sub", ONE, ("neg", A)), ("text", "x"))
        self.from_middle("count (*) (", 0, ("agg", "count", None), ("sign", "("))
        self.from_middle("t.a.b", 0, A, ("sign", "."))
        self.from_middle("1 [", 0, ONE, ("sign", "["))

    def test_from_the_middle_refused(self):
        reading = Reading(words_of("1 + 2 + )"))
        reading.at = 2
        self.refused(BadText(8), expr_from, reading)
        reading = Reading(words_of("1 + 2"))
        reading.at = 3
        self.refused(BadText(5), expr_from, reading)
        reading = Reading(words_of("(" * 21 + "1"))
        self.refused(TooMuch("depth"), expr_from, reading)
        reading = Reading(words_of("(1"))
        reading.opened = 20
        self.refused(TooMuch("depth"), expr_from, reading)

    def test_one_after_the_other(self):
        reading = Reading(words_of("sum (t.a) + min (t.a) , max (t.a) + sum (t.b) , count (*)"))
        for _ in range(2):
            expr_from(reading)
            reading.expect(",")
        self.refused(TooMuch("aggs"), expr_from, reading)


if __name__ == "__main__":
    unittest.main()
