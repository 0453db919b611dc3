"""[64] [67] Texts of plans, read."""

import random
import unittest

import helper
from drawnplans import Drawn
from leastplans.errors import BadPlan, BadPlanText
from leastplans.judging import judged_top
from leastplans.planreadings import read_plan
from leastplans.plantexts import plan_text
from leastplans.planshapes import top_shape
from leastplans.words import RESERVED

SCAN = ("scan", 0)
LEAVES = [("scan", 7), ("walk", 0, "byday"), ("seek", 3, "a_1", 2), ("inner", 1, ("give", SCAN)),
          ("inner", 0, ("give", ("bag", SCAN), "sorted"))]


def over(below):
    """A plan of each word over others."""
    return [("sort", below, ()), ("sort", below, (3,)), ("sort", below, (5, 3, 5, 0)), ("loop", below, SCAN),
            ("hash", SCAN, below), ("merge", below, below), ("look", below, 2, "byday", 1), ("bag", below), ("stream", below)]


def chance_plan(chance, deep):
    """A formed plan, let or not."""
    if deep == 0 or chance.random() < 0.2:
        if chance.random() < 0.3:
            return ("inner", chance.randrange(9), chance_top(chance, max(deep - 1, 0)))
        return chance.choice(LEAVES)
    word = chance.choice(("sort", "loop", "hash", "merge", "look", "bag", "stream"))
    below = chance_plan(chance, deep - 1)
    if word == "sort":
        return (word, below, tuple(chance.randrange(12) for _ in range(chance.randrange(4))))
    if word == "look":
        return (word, below, chance.randrange(12), chance.choice(("x", "ix_2")), chance.randrange(4))
    if word in ("bag", "stream"):
        return (word, below)
    return (word, below, chance_plan(chance, deep - 1))


def chance_top(chance, deep):
    plan = chance_plan(chance, deep)
    return ("give", plan, "sorted") if chance.random() < 0.5 else ("give", plan)


class ReadPlanTest(helper.Case):

    def refuse(self, line, text):
        with self.subTest(text=text):
            self.refused(BadPlanText(line), read_plan, text)

    def test_document(self):
        self.same(read_plan(text="give\n  bag\n    loop\n      scan 0\n      scan 1"),
                  ("give", ("bag", ("loop", ("scan", 0), ("scan", 1)))))

    def test_each_step(self):
        for leaf in LEAVES:
            for plan in [leaf] + over(leaf):
                for top in (("give", plan), ("give", plan, "sorted"), ("give", ("bag", ("inner", 0, ("give", plan))))):
                    self.same(read_plan(plan_text(top)), top)

    def test_words(self):
        for words, plan in [
            ("scan 0", ("scan", 0)), ("scan 12", ("scan", 12)), ("walk 0 byday", ("walk", 0, "byday")),
            ("seek 10 b_2 0", ("seek", 10, "b_2", 0)), ("walk 1 a", ("walk", 1, "a")), ("walk 1 abcdefghijkl", ("walk", 1, "abcdefghijkl")),
            ("walk 1 scan", ("walk", 1, "scan")), ("walk 1 give", ("walk", 1, "give")), ("walk 1 sorted", ("walk", 1, "sorted")),
        ]:
            self.same(read_plan("give\n  " + words), ("give", plan))
            self.same(read_plan("give sorted\n  " + words), ("give", plan, "sorted"))
        for words, plan in [
            ("sort", ("sort", SCAN, ())), ("sort 3", ("sort", SCAN, (3,))), ("sort 3 5 3", ("sort", SCAN, (3, 5, 3))),
            ("look 2 byday 1", ("look", SCAN, 2, "byday", 1)), ("bag", ("bag", SCAN)), ("stream", ("stream", SCAN)),
        ]:
            self.same(read_plan(f"give\n  {words}\n    scan 0"), ("give", plan))
        for word in ("loop", "hash", "merge"):
            self.same(read_plan(f"give\n  {word}\n    scan 1\n    scan 0"), ("give", (word, ("scan", 1), SCAN)))
        self.same(read_plan("give\n  loop\n    inner 2\n      give sorted\n        scan 1\n    scan 0"),
                  ("give", ("loop", ("inner", 2, ("give", ("scan", 1), "sorted")), SCAN)))

    def test_both_ways(self):
        """read_plan(plan_text(top)) is top, and plan_text(read_plan(text)) is text."""
        chance = random.Random(64)
        for _ in range(500):
            top = chance_top(chance, chance.randrange(7))
            self.same(top_shape(top), None)
            text = plan_text(top)
            self.same(read_plan(text), top)
            self.same(plan_text(read_plan(text)), text)
        for _, block in helper.chance_blocks(641, 20):
            for top, _ in Drawn(chance, block, 20).tops:
                self.same(read_plan(plan_text(top)), top)

    def test_numbers(self):
        for many in (1, 2, 59, 60):
            figures = "9" * many
            self.same(read_plan(f"give\n  scan {figures}"), ("give", ("scan", int(figures))))
            self.same(read_plan(f"give\n  sort {figures} 0\n    scan 0"), ("give", ("sort", SCAN, (int(figures), 0))))
        self.same(read_plan("give\n  scan 1" + "0" * 59), ("give", ("scan", 10 ** 59)))
        for word in ("9" * 61, "1" + "0" * 60, "00", "01", "007", "0" * 60, "+1", "-1", "-0", "+0", "1.0", "1e3", "0x1", "1_0",
                     "a", "one", "_", "1a", "a1", "'", "(1)", "1,", ",", "True", "None", "", "\t1", "1\t", "\u0661", "\u00b2", "\uff11"):
            for text in ("scan {}", "walk {} x", "seek {} x 1", "seek 0 x {}", "inner {}", "sort {}", "sort 0 {}", "sort {} 0",
                         "look {} x 1", "look 0 x {}"):
                if word == "" and text == "sort {}":
                    continue
                self.refuse(1, "give\n  " + text.format(word) + "\n    scan 0")
        self.refuse(1, "give\n  sort \n    scan 0")

    def test_names(self):
        for word in RESERVED + ("", "A", "byDay", "1a", "_a", "by-day", "abcdefghijklm", "a.b", "'a'", "a,", "\u00e9", "a\t", "by%"):
            for text in ("walk 0 {}", "seek 0 {} 1", "look 0 {} 1"):
                self.refuse(1, "give\n  " + text.format(word) + "\n    scan 0")
        for word in ("by", "selects", "ma", "orders"):
            if word not in RESERVED:
                self.same(read_plan(f"give\n  walk 0 {word}"), ("give", ("walk", 0, word)))

    def test_blanks(self):
        good = "give\n  look 2 x 1\n    sort 1 2\n      scan 0"
        read_plan(good)
        for at, line in enumerate(good.split("\n")):
            for wrong in (" " + line, "  " + line, line[1:] if line[0] == " " else "\t" + line, line[2:] if line[0] == " " else " " + line,
                          line + " ", line + "  ", line + "\t", line.replace("  ", "\t", 1) if at else "\tgive", line + "\r",
                          line.strip() + "  x", line.lstrip().join(("  " * at + " ", ""))):
                lines = good.split("\n")
                lines[at] = wrong
                self.refuse(at, "\n".join(lines))
        for wrong in ("\t\tscan 0", "..scan 0", " 0scan 0", "0 scan 0", "\n\nscan 0"[1:], "givescan 0"):
            self.refuse(1, "give\n" + wrong)
        for wrong in ("look  2 x 1", "look 2  x 1", "look 2 x  1", "look\t2 x 1"):
            self.refuse(1, good.replace("look 2 x 1", wrong))
        self.refuse(2, good.replace("sort 1 2", "sort 1  2"))

    def test_members(self):
        """Words unknown, too many, too few."""
        for wrong in ("scan", "scan 0 0", "scan 0 x", "walk", "walk 0", "walk x", "walk x 0", "walk 0 x 1", "walk 0 x y", "seek", "seek 0",
                      "seek 0 x", "seek 0 1 x", "seek x 0 1", "seek 0 x 1 1", "inner", "inner 0 0", "inner x", "look", "look 0", "look 0 x",
                      "look x 0 1", "look 0 x 1 2", "loop 0", "loop x", "hash hash", "merge 1", "bag 0", "bag bag", "stream x", "sort x", "sort 1 x",
                      "scans 0", "Scan 0", "SCAN 0", "sorts", "sorted", "sorted 0", "plan", "0", "0 scan", "", "side 0", "none"):
            self.refuse(1, f"give\n  {wrong}\n    scan 0\n    scan 1")
        for wrong in ("gives", "Give", "GIVE", "give give", "give sort", "give Sorted", "give sorted sorted", "give 0", "sorted", "sorted give", "",
                      "give  sorted"):
            self.refuse(0, wrong + "\n  scan 0")
            self.refuse(2, f"give\n  inner 0\n    {wrong}\n      scan 0")

    def test_tops_and_steps(self):
        """A step in the place of a top, and the other way round."""
        for leaf in LEAVES:
            for plan in [leaf] + over(leaf):
                self.refuse(0, plan_text(("give", plan)).split("\n", 1)[1].replace("\n  ", "\n")[2:])
        for words in ("give", "give sorted"):
            self.refuse(1, f"give\n  {words}\n    scan 0")
            self.refuse(2, f"give\n  bag\n    {words}\n      scan 0")
            self.refuse(3, f"give\n  loop\n    scan 0\n    {words}\n      scan 0")
        self.refuse(2, "give\n  inner 0\n    scan 0")
        self.refuse(2, "give\n  inner 0\n    bag\n      scan 0")
        self.refuse(0, "scan 0")

    def test_ends(self):
        """The empty text is one line; lines that end too soon; lines behind the whole top."""
        self.refuse(0, "")
        self.refuse(0, "\n")
        self.refuse(1, "give")
        self.refuse(1, "give sorted")
        self.refuse(1, "give\n")
        self.refuse(2, "give\n  bag")
        self.refuse(3, "give\n  loop\n    scan 0")
        self.refuse(5, "give\n  loop\n    loop\n      scan 0\n      scan 1")
        self.refuse(2, "give\n  inner 0")
        self.refuse(3, "give\n  inner 0\n    give")
        self.refuse(2, "give\n  scan 0\n")
        self.refuse(2, "give\n  scan 0\n\n")
        self.refuse(2, "give\n  scan 0\n  scan 1")
        self.refuse(2, "give\n  scan 0\n    scan 1")
        self.refuse(2, "give\n  scan 0\ngive\n  scan 0")
        self.refuse(3, "give\n  bag\n    scan 0\n    scan 1")
        self.refuse(4, "give\n  inner 0\n    give\n      scan 0\n    scan 1")
        # no leaf has a step below it, but an inner one
        self.refuse(2, "give\n  walk 0 x\n    scan 1")
        self.refuse(4, "give\n  loop\n    scan 0\n    seek 0 x 1\n  \n")

    def test_first_line(self):
        """The first line that cannot stand there, whatever stands behind it."""
        self.refuse(1, "give\n  x\n    y\n")
        self.refuse(2, "give\n  loop\n    x\n   scan 0\n\n")
        self.refuse(3, "give\n  loop\n    scan 0\n   scan 0\n\n")
        self.refuse(4, "give\n  loop\n    scan 0\n    bag\n    scan 0")
        self.refuse(3, "give\n  loop\n    bag\n    scan 0\n    scan 1")

    def test_deep(self):
        """Texts may be deeper than calls can be: they are read, shown and judged."""
        many = 2500
        text = "\n".join(["give"] + ["  " * (at + 1) + "bag" for at in range(many)])
        self.refuse(many + 1, text)
        top = read_plan(text + "\n" + "  " * (many + 1) + "scan 0")
        deep = 0
        plan = top[1]
        while plan[0] == "bag":
            plan = plan[1]
            deep += 1
        self.same((deep, plan), (many, SCAN))
        self.assertTrue(plan_text(top) == text + "\n" + "  " * (many + 1) + "scan 0")
        block = helper.block(helper.shop(), "select count (*) as n from t")
        self.refused(BadPlan((0,) * (many - 1), "twice"), judged_top, block, top)
        text = "\n".join(["give"] + ["  " * (at + 1) + "loop" for at in range(400)] + ["  " * 401 + "scan 0"] * 2)
        self.refuse(403, text)
        rest = "".join("\n" + "  " * (400 - at) + "scan 0" for at in range(399))
        self.refused(BadPlan((0,) * 400, "overlap"), judged_top, block, read_plan(text + rest))


if __name__ == "__main__":
    unittest.main()
