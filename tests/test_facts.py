"""[21] [22] [23] [24] ranks, facts and rows."""

import itertools
import random
import unittest

import helper
from leastplans.errors import BadFact, BadRow
from leastplans.factchecks import alike_most, broken, unlike_many
from leastplans.factkinds import told_facts
from leastplans.ranks import alike, equal, rank, rank_row
from leastplans.rowkinds import told_row

COLUMNS = (("a", "number", False), ("b", "number", True), ("x", "text", True), ("y", "text", False))
MANY = 10 ** 6


class RanksTest(helper.Case):

    def test_rank(self):
        for value in (0, 1, -5, 10 ** 30, "", "a", "Z z"):
            self.same(rank(value=value), (1, value))
        self.same(rank(None), (0,))
        self.assertLess(rank(None), rank(-10 ** 50))
        self.assertLess(rank(None), rank(""))

    def test_rank_row(self):
        row = (3, None, "x")
        self.same(rank_row(row=row, places=(0, 1, 2)), ((1, 3), (0,), (1, "x")))
        self.same(rank_row(row, (2, 0)), ((1, "x"), (1, 3)))
        self.same(rank_row(row, (1, 1)), ((0,), (0,)))
        self.same(rank_row(row, ()), ())

    def test_alike_and_equal(self):
        values = (None, True, False, 0, 1, -1, 2, "", "0", "1", "None", "a", "A", 10 ** 40)
        for (at, one), (place, other) in itertools.product(enumerate(values), repeat=2):
            self.same(alike(one=one, other=other), at == place)
            self.same(equal(one=one, other=other), at == place and one is not None)


class FactKindsTest(helper.Case):

    def told(self, facts, placed):
        self.same(told_facts(columns=COLUMNS, facts=facts), placed)

    def test_placed(self):
        self.told((("rows", 0),), (("rows", 0),))
        self.told((("rows", MANY),), (("rows", MANY),))
        self.told(
            (("fan", ("y", "a"), 3), ("key", ("y",)), ("rows", 7), ("dist", "x", 1), ("lies", ("b", "a", "x")),
             ("key", ("a", "y")), ("fan", ("y", "a"), 3), ("dist", "x", MANY), ("fan", ("b",), MANY), ("fan", ("x",), 1)),
            (("fan", (3, 0), 3), ("key", (3,)), ("rows", 7), ("dist", 2, 1), ("lies", (1, 0, 2)),
             ("key", (0, 3)), ("fan", (3, 0), 3), ("dist", 2, MANY), ("fan", (1,), MANY), ("fan", (2,), 1)))
        self.told((("lies", ("x",)), ("rows", 1)), (("lies", (2,)), ("rows", 1)))

    def bad(self, why, *facts):
        self.refused(BadFact(why), told_facts, COLUMNS, facts)

    def test_form(self):
        for fact in helper.ODD_VALUES + (
            ("Rows", 1), ("rows",), ("rows", 1, 2), ["rows", 1], ("key",), ("key", "a"), ("key", ["a"]),
            ("key", ("a",), 1), ("key", (1,)), ("key", ("a", None)), ("fan", ("a",)), ("fan", "a", 1),
            ("fan", ("a",), 1, 1), ("fan", 1, ("a",)), ("dist", ("a",), 1), ("dist", "a"), ("dist", 1, "a"), ("dust", "a", 1), ("key", "a", 1),
            ("dist", None, 1), ("lies",), ("lies", "a"), ("lies", ("a",), 1), ("lies", (("a",),)), (None, 1), (1, "rows"),
            ((), ()), ("size", 1), ("dist", "a", 1, 1), ("key", None), ("lies", True), (["rows"], 1), ("", ("a",)),
        ):
            self.bad("form", fact)
            self.bad("form", ("rows", 1), fact)
            self.bad("form", fact, ("rows", -1))

    def test_number(self):
        wrong = (-1, True, False, None, "1", (1,), MANY + 1, 10 ** 59, -MANY, [], ())
        for number in wrong:
            self.bad("number", ("rows", number))
        for number in wrong + (0,):
            self.bad("number", ("rows", 1), ("fan", ("a",), number))
            self.bad("number", ("rows", 1), ("dist", "a", number))
        # ahead of what comes later
        for fact in (("fan", (), 0), ("fan", ("z",), -1), ("fan", ("a", "a"), None), ("dist", "z", 0)):
            self.bad("number", ("rows", 1), fact)
        self.bad("number", ("rows", 1), ("rows", -1))

    def test_empty(self):
        for fact in (("key", ()), ("fan", (), 1), ("lies", ())):
            self.bad("empty", fact)
        self.bad("empty", ("rows", 1), ("lies", ("a",)), ("lies", ()))

    def test_column(self):
        for names in (("z",), ("a", "z"), ("a", "a"), ("a", "y", "a"), ("",), ("A",)):
            for fact in (("key", names), ("fan", names, 1), ("lies", names)):
                self.bad("column", ("rows", 1), fact)
        self.bad("column", ("dist", "z", 1))
        self.bad("column", ("dist", "", 1))
        # ahead of free and twice
        self.bad("column", ("key", ("b", "z")))
        self.bad("column", ("key", ("b", "b")))
        self.bad("column", ("rows", 1), ("lies", ("a",)), ("lies", ("z",)))

    def test_free(self):
        for names in (("b",), ("x",), ("a", "b"), ("x", "y")):
            self.bad("free", ("key", names))
            places = tuple("abxy".index(name) for name in names)
            self.told((("rows", 1), ("fan", names, 1), ("lies", names)), (("rows", 1), ("fan", places, 1), ("lies", places)))

    def test_twice(self):
        self.bad("twice", ("rows", 1), ("rows", 1))
        self.bad("twice", ("rows", 1), ("key", ("a",)), ("rows", 2), 7)
        self.bad("twice", ("lies", ("a",)), ("lies", ("a",)))
        self.bad("twice", ("lies", ("a",)), ("rows", 1), ("lies", ("b",)), ("key", ("b",)))

    def test_fact_by_fact(self):
        self.bad("free", ("key", ("b",)), ("rows", -1), 7)
        self.bad("number", ("rows", -1), ("key", ("b",)))
        self.bad("twice", ("lies", ("a",)), ("lies", ("b",)), ("form",))

    def test_rows_are_told(self):
        self.bad("rows")
        self.bad("rows", ("key", ("a",)), ("lies", ("a",)))
        self.bad("form", ("key", ("a",)), ("row", 1))


class FactChecksTest(helper.Case):

    ROWS = [(1, None, "a"), (1, None, "b"), (1, 2, "a"), (2, None, "a")]

    def test_alike_most(self):
        self.every((
            ((), 4), ((0,), 3), ((1,), 3), ((2,), 3), ((0, 1), 2), ((1, 0), 2), ((0, 2), 2), ((1, 2), 2), ((0, 1, 2), 1),
        ), lambda places, many: self.same(alike_most(rows=self.ROWS, places=places), many))
        for places in ((), (0,), (0, 1, 2)):
            self.same(alike_most([], places), 0)
            self.same(alike_most((), places), 0)
            self.same(alike_most(tuple(self.ROWS[:1]), places), 1)
        self.same(alike_most([(1, 2)] * 5, (0, 1)), 5)

    def test_unlike_many(self):
        for place, many in enumerate((2, 2, 2)):
            self.same(unlike_many(rows=self.ROWS, place=place), many)
            self.same(unlike_many((), place), 0)
        self.same(unlike_many([(None,), (None,)], 0), 1)
        self.same(unlike_many([(None,), (0,), (1,), (0,)], 0), 3)
        self.same(unlike_many([("",), ("a",), (None,), ("A",)], 0), 4)

    def test_broken_at_the_bounds(self):
        rows = self.ROWS
        self.every((
            (("rows", 4), True), (("rows", 3), False), (("rows", 0), False),
            (("key", (0, 1, 2)), True), (("key", (0, 2)), False), (("key", (0,)), False),
            (("fan", (0,), 3), True), (("fan", (0,), 2), False), (("fan", (1,), 3), True), (("fan", (1,), 2), False),
            (("fan", (0, 1), 2), True), (("fan", (0, 1), 1), False),
            (("dist", 0, 2), True), (("dist", 0, 1), False), (("dist", 1, 2), True), (("dist", 1, 1), False),
            (("lies", (0,)), True), (("lies", (1,)), False), (("lies", (2,)), False), (("lies", (0, 1)), True),
            (("lies", (0, 2)), False), (("lies", (0, 1, 2)), True),
        ), lambda fact, is_kept: self.same(broken(facts=(fact,), rows=rows), None if is_kept else 0))

    def test_broken_lies(self):
        self.every((
            ([], True), ([(5, 5)], True), ([(None, 1), (None, 1)], True), ([(None, 9), (0, 1)], True),
            ([(0, 1), (None, 9)], False), ([(1, 1), (1, 0)], False), ([(1, None), (1, 0)], True),
            ([(1, 0), (1, None)], False), ([(1, 2), (2, 1), (2, 0)], False), ([(1, 2), (2, 1), (2, 1), (3, 0)], True),
            ([(2, 0), (1, 0), (3, 0)], False),
        ), lambda rows, is_kept: self.same(broken((("lies", (0, 1)),), rows), None if is_kept else 0))
        self.same(broken((("lies", (1, 0)),), ((9, "a"), (1, "b"), (1, "b"))), None)
        self.same(broken((("lies", (1, 0)),), ((9, "a"), (1, "b"), (0, "b"))), 0)

    def test_the_first_one(self):
        facts = (("dist", 0, 2), ("rows", 4), ("fan", (0,), 2), ("key", (0,)), ("lies", (1,)))
        self.same(broken(facts, tuple(self.ROWS)), 2)
        self.same(broken(facts[3:], self.ROWS), 0)
        self.same(broken(facts[:2], self.ROWS), None)
        self.same(broken((), self.ROWS), None)
        self.same(broken(facts, []), None)

    def test_beside_a_count(self):
        chance = random.Random(3)
        for _ in range(200):
            rows = [tuple(chance.choice((None, 0, 1)) for _ in range(3)) for _ in range(chance.randrange(6))]
            places = tuple(chance.sample(range(3), chance.randrange(4)))
            most = max([sum(all(alike(one[at], other[at]) for at in places) for other in rows) for one in rows], default=0)
            self.same(alike_most(rows, places), most)
            self.same(unlike_many(rows, 1), len({row[1] for row in rows}))


class RowKindsTest(helper.Case):

    GOOD = (1, 2, "x", "y")

    def test_let(self):
        top = 10 ** 9 - 1
        for row in (self.GOOD, (0, None, None, ""), (top, -top, "abcdefghijkl", " " * 12), (-top, top, "A(%"[:2], "12")):
            self.assertIs(told_row(columns=COLUMNS, row=row), row)
        self.same(told_row((("a", "number", True),), (None,)), (None,))

    def bad(self, why, row):
        self.refused(BadRow(why), told_row, COLUMNS, row)

    def test_row(self):
        for row in helper.ODD_VALUES:
            if not isinstance(row, tuple):
                self.bad("row", row)
        self.bad("row", [1, 2, "x", "y"])
        self.bad("row", "abcd")

    def test_length(self):
        for row in ((), (1,), (1, 2, "x"), (1, 2, "x", "y", None), (None, None, None), ("x", True, []), ("x",) * 5):
            self.bad("length", row)

    def test_kind(self):
        for value in (True, False, "1", "", (), (1,), [], [1]):
            self.bad("kind", (value, 2, "x", "y"))
            self.bad("kind", (1, value, "x", "y"))
        for value in (True, False, 1, 0, (), ("x",), [], ["x"]):
            self.bad("kind", (1, 2, value, "y"))
            self.bad("kind", (1, 2, "x", value))

    def test_null(self):
        self.bad("null", (None, 2, "x", "y"))
        self.bad("null", (1, 2, "x", None))

    def test_number(self):
        for value in (10 ** 9, -10 ** 9, 10 ** 59):
            self.bad("number", (value, 2, "x", "y"))
            self.bad("number", (1, value, "x", "y"))

    def test_text(self):
        for value in ("abcdefghijklm", "'", "a'b", "it's" * 9):
            self.bad("text", (1, 2, value, "y"))
            self.bad("text", (1, 2, "x", value))

    def test_value_by_value(self):
        wrong = (("kind", "1"), ("null", None), ("number", 10 ** 9)), (("kind", ""), ("number", -10 ** 9)), (
            ("kind", 1), ("text", "'")), (("kind", True), ("null", None), ("text", "a" * 13))
        for at, behind in itertools.combinations(range(4), 2):
            for (why, value), (_, later) in itertools.product(wrong[at], wrong[behind]):
                row = list(self.GOOD)
                row[at], row[behind] = value, later
                self.bad(why, tuple(row))


if __name__ == "__main__":
    unittest.main()
