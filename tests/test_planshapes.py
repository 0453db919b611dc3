"""[62] The form of plans and tops."""

import unittest

import helper
from leastplans.planshapes import shape_of, top_shape

SCAN = ("scan", 0)
FORMED = [
    SCAN, ("scan", 10 ** 59), ("walk", 3, "no index"), ("walk", 0, ""), ("seek", 0, "x", 0), ("seek", 1, "X 1", 7),
    ("inner", 0, ("give", SCAN)), ("inner", 4, ("give", SCAN, "sorted")), ("sort", SCAN, ()), ("sort", SCAN, (3, 3, 0)),
    ("loop", SCAN, SCAN), ("hash", SCAN, ("bag", SCAN)), ("merge", SCAN, SCAN), ("look", SCAN, 0, "ix", 1),
    ("bag", ("stream", SCAN)), ("stream", SCAN),
]
TOPS = [("give", SCAN), ("give", SCAN, "sorted")]
NO_PLANS = list(helper.ODD_VALUES) + TOPS + [
    ["scan", 0], ("scan",), ("scan", 0, 0), ("scan", -1), ("scan", True), ("scan", False), ("scan", "0"), ("scan", None),
    ("scan", (0,)), ("Scan", 0), ("scans", 0), ("", 0), (None, 0), (0, "scan"), (("scan",), 0), (["scan"], 0),
    ("walk", 0), ("walk", 0, 0), ("walk", 0, None), ("walk", True, "x"), ("walk", 0, ("x",)), ("walk", 0, "x", 1),
    ("walk", "x", 0), ("seek", 0, "x"), ("seek", 0, "x", True), ("seek", 0, "x", -1), ("seek", 0, "x", "1"),
    ("seek", 0, "x", 1, 1), ("seek", 0, 1, 1), ("seek", None, "x", 1), ("inner", 0), ("inner", True, TOPS[0]),
    ("inner", 0, TOPS[0], 0), ("inner", TOPS[0]), ("sort", SCAN), ("sort", SCAN, 0), ("sort", SCAN, [0]),
    ("sort", SCAN, (True,)), ("sort", SCAN, (0, None)), ("sort", SCAN, (-1,)), ("sort", SCAN, ((0,),)), ("sort", SCAN, "0"),
    ("sort", SCAN, (0,), (0,)), ("sort", (0,), SCAN, 1), ("loop", SCAN), ("loop", SCAN, SCAN, SCAN), ("hash", SCAN),
    ("merge", SCAN, SCAN, 0), ("look", SCAN, 0, "x"), ("look", SCAN, 0, "x", True), ("look", SCAN, "x", 0, 1),
    ("look", SCAN, 0, 0, 1), ("look", SCAN, -1, "x", 1), ("look", SCAN, 0, "x", 1, 1), ("bag",), ("bag", SCAN, 0),
    ("stream",), ("stream", SCAN, SCAN), ("give", SCAN, "Sorted"),
]
NO_TOPS = FORMED + list(helper.ODD_VALUES) + [
    ("give",), ("give", SCAN, "sorte"), ("give", SCAN, None), ("give", SCAN, True), ("give", SCAN, ("sorted",)),
    ("give", SCAN, "sorted", "sorted"), ["give", SCAN], ("sorted", SCAN), ("give", "sorted", SCAN), ("gives", SCAN),
    ("give", SCAN, 0), ("give", SCAN, ""),
]


class ShapesTest(helper.Case):

    def test_formed(self):
        for plan in FORMED:
            self.same(shape_of(plan=plan), None)
            self.same(top_shape(top=("give", plan)), None)
            self.same(shape_of(("bag", plan)), None)
        for top in TOPS:
            self.same(top_shape(top), None)
            self.same(shape_of(("inner", 0, top)), None)

    def test_not_formed(self):
        for thing in NO_PLANS:
            with self.subTest(thing=thing):
                self.same(shape_of(thing), ())
                self.same(top_shape(("give", thing)), (0,))
                self.same(shape_of(("merge", SCAN, thing)), (1,))
                self.same(shape_of(("look", ("sort", thing, (1,)), 0, "x", 1)), (0, 0))
        for thing in NO_TOPS:
            with self.subTest(thing=thing):
                self.same(top_shape(thing), ())
                self.same(shape_of(("bag", ("inner", 0, thing))), (0, 0))

    def test_children_are_not_looked_at(self):
        """A node is formed whatever its children are: the first wrong node is told, not that above it."""
        self.same(shape_of(("loop", None, 7)), (0,))
        self.same(shape_of(("loop", SCAN, 7)), (1,))
        self.same(shape_of(("sort", None, (True,))), ())
        self.same(top_shape(("give", None, "sort")), ())
        self.same(top_shape(("give", None, "sorted")), (0,))

    def test_which_comes_first(self):
        """A node, then child by child, each with all below it."""
        bad = ("scan", True)
        for thing, path in [
            (("loop", ("bag", bad), bad), (0, 0)), (("loop", ("bag", SCAN), bad), (1,)),
            (("loop", ("loop", SCAN, ("bag", bad)), bad), (0, 1, 0)), (("loop", bad, ("bag", bad)), (0,)),
            (("merge", ("inner", 0, ("give", ("bag", bad))), bad), (0, 0, 0, 0)),
            (("hash", ("inner", 0, SCAN), bad), (0, 0)), (("hash", ("give", SCAN), bad), (0,)),
            (("look", ("inner", -1, bad), 0, "x", 1), (0,)), (("hash", ("inner", 0, ("give", SCAN)), ("bag", bad)), (1, 0)),
        ]:
            self.same(shape_of(thing), path)
            self.same(top_shape(("give", thing)), (0,) + path)

    def test_deep(self):
        plan = SCAN
        wrong = ("scan", -1)
        for _ in range(3000):
            plan = ("bag", plan)
            wrong = ("bag", wrong)
        self.same(shape_of(plan), None)
        self.same(shape_of(wrong), (0,) * 3000)


if __name__ == "__main__":
    unittest.main()
