"""[47] Values and truths over marks."""

import random
import unittest

import helper
from helper import over_marks
from leastplans.blockmeanings import means
from leastplans.columnsin import columns_in, replaced
from leastplans.meanings import truth_of
from leastplans.questionreading import read_cond
from leastplans.views import make_view
from leastplans.worths import mark_truth, mark_value

WORTH = {0: 5, 3: None, 7: "x"}
FOLDS = (4, None, "b")


def expr(text):
    """An expression over marks."""
    return over_marks(f"{text} is null")[1]


class WorthsTest(helper.Case):

    def test_values(self):
        agg = [("agg", at) for at in range(3)]
        cases = [
            (("num", 3), 3), (("text", ""), ""), (("mark", 0), 5), (("mark", 3), None), (("mark", 7), "x"),
            (agg[0], 4), (agg[1], None), (agg[2], "b"),
            (expr("m.m0 * 2 - 1"), 9), (expr("- (m.m0 + 1)"), -6), (expr("m.m0 + m.m3"), None),
            (expr("0 * m.m3"), None), (expr("- m.m3"), None), (expr("1 - m.m3"), None),
            (("mul", agg[0], ("mark", 0)), 20), (("sub", agg[0], agg[1]), None),
        ]
        for one, wanted in cases:
            with self.subTest(expr=one):
                self.same(mark_value(one, WORTH, FOLDS), wanted)
                self.same(mark_value(expr=one, worth=WORTH, folds=FOLDS), wanted)
        self.same((WORTH, FOLDS), ({0: 5, 3: None, 7: "x"}, (4, None, "b")))

    def test_truths(self):
        cases = [
            ("m.m0 = 5", True), ("m.m0 <> 5", False), ("m.m0 < 6", True), ("m.m0 <= 4", False),
            ("m.m0 > 4", True), ("m.m0 >= 6", False), ("m.m7 = 'x'", True), ("m.m7 < 'x'", False),
            ("m.m3 = 1", None), ("m.m3 = m.m3", None), ("m.m3 is null", True), ("m.m0 is null", False),
            ("m.m0 + m.m3 is null", True), ("m.m3 is not null", False),
            ("not m.m3 = 1", None), ("not m.m0 = 1", True), ("maybe m.m3 = 1", True), ("maybe m.m0 = 1", False),
            ("maybe m.m0 = 5", True), ("not maybe m.m3 = 1", False),
            ("m.m0 = 5 and m.m3 = 1", None), ("m.m0 = 1 and m.m3 = 1", False), ("m.m3 = 1 and m.m0 = 1", False),
            ("m.m0 = 5 or m.m3 = 1", True), ("m.m0 = 1 or m.m3 = 1", None), ("m.m0 = 1 or m.m0 = 2", False),
        ]
        for text, wanted in cases:
            with self.subTest(text=text):
                self.same(mark_truth(over_marks(text), WORTH, ()), wanted)
        self.same(mark_truth(cond=("cmp", "=", ("agg", 0), ("num", 4)), worth={}, folds=FOLDS), True)
        self.same(mark_truth(("null", ("agg", 1)), {}, list(FOLDS)), True)
        self.same(mark_truth(("cmp", "=", ("agg", 1), ("num", 4)), {}, FOLDS), None)

    def test_beside_meaning(self):
        """Over marks a condition has the truth that it has in an environment."""
        chance = random.Random(47)
        house = helper.store()
        maker = helper.Questions(470)
        seen = [("m", [(f"m{at}", "number") for at in range(3)] + [("m7", "text")])]
        for _ in range(300):
            cond = read_cond(maker.cond(seen, 3))
            worth = {at: chance.choice((None, 0, 1, 2)) for at in range(3)}
            worth[7] = chance.choice((None, "", "a", "b"))
            env = {"m": {f"m{at}": worth[at] for at in worth}}
            self.same(mark_truth(marked(cond), worth, ()), truth_of(house, cond, env))

    def test_deep(self):
        """Outputs put in, one in the other, make expressions far deeper than a text can."""
        house = helper.shop(rows=True)
        ones = " + 1" * 39
        make_view(house, "v0", "select t.b from t")
        for at in range(6):
            make_view(house, f"v{at + 1}", f"select v{at}.b{ones} as b from v{at}")
        block = helper.block(house, "select v6.b - 1 as c from v6 where v6.b > 240")
        self.same(len(block.units), 1)
        self.same(means(house, block), [(7 + 6 * 39 - 1,)])


def marked(cond):
    table = {column: ("mark", int(column[2][1:])) for column in columns_in(cond)}
    return replaced(cond, table)


if __name__ == "__main__":
    unittest.main()
