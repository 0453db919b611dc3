"""[27] [29] tables."""

import random
import unittest

import helper
from leastplans.entries import entries_of
from leastplans.errors import BadFact, BadRow, FactBroken, NoName, TwiceNamed
from leastplans.factchecks import broken
from leastplans.tables import Table

COLUMNS = (("a", "number", False), ("b", "number", True), ("x", "text", True))


def table(*facts):
    return Table("t", COLUMNS, facts)


def filled(facts, *rows):
    made = table(*facts)
    for row in rows:
        made.lay(row)
    return made


def state(made):
    return (made.name, made.columns, made.facts, made.placed, made.lying, dict(made.indexed))


class TableTest(helper.Case):

    def unchanged(self, made, error, call, *told):
        before = state(made)
        self.refused(error, call, *told)
        self.same(state(made), before)

    def test_new(self):
        facts = (("lies", ("b", "a")), ("rows", 5), ("key", ("a",)))
        made = Table(name="t", columns=COLUMNS, facts=facts)
        self.same(state(made), ("t", COLUMNS, facts, (("lies", (1, 0)), ("rows", 5), ("key", (0,))), (), {}))

    def test_refused_new(self):
        twice = (("a", "number", False), ("b", "number", True), ("c", "text", True), ("b", "text", True),
                 ("a", "text", False))
        self.refused(TwiceNamed("b"), Table, "t", twice, ())
        self.refused(TwiceNamed("b"), Table, "t", twice, (7,))
        self.refused(BadFact("rows"), Table, "t", COLUMNS, ())
        self.refused(BadFact("form"), Table, "t", COLUMNS, (("rows", 1), 7))
        self.refused(BadFact("free"), Table, "t", COLUMNS, (("rows", 1), ("key", ("b",))))

    def test_lay(self):
        made = table(("rows", 9), ("lies", ("a",)))
        for row in ((2, None, "p"), (1, 1, "q"), (2, 0, "r"), (0, 0, None), (1, 0, "s")):
            self.assertIsNone(made.lay(row=row))
        self.same(made.lying, ((0, 0, None), (1, 1, "q"), (1, 0, "s"), (2, None, "p"), (2, 0, "r")))
        made = filled([("rows", 9)], (2, 1, "p"), (1, 1, "q"), (2, 1, "p"))
        self.same(made.lying, ((2, 1, "p"), (1, 1, "q"), (2, 1, "p")))

    def test_lay_refused(self):
        made = filled([("rows", 1), ("lies", ("a",))], (1, 1, "x"))
        made.add_index("ix", ("a",))
        for why, row in (("row", [1, 1, "x"]), ("length", (1, 1)), ("kind", (True, 1, "x")), ("null", (None, 1, "x")),
                         ("number", (10 ** 9, 1, "x")), ("text", (1, 1, "'"))):
            self.unchanged(made, BadRow(why), made.lay, row)
            self.unchanged(made, BadRow(why), made.lift_out, row)
        self.unchanged(made, FactBroken("t", ("rows", 1)), made.lay, (1, 1, "x"))

    def test_facts_at_their_bounds(self):
        self.every((
            (("rows", 2), ((1, 1, "x"), (2, 2, "y")), (3, 3, "z"), None),
            (("key", ("a",)), ((1, 1, "x"), (2, 1, "x")), (1, 2, "y"), (3, 1, "x")),
            (("fan", ("b",), 2), ((1, None, "x"), (2, None, "y")), (3, None, "z"), (3, 1, "z")),
            (("fan", ("b", "x"), 1), ((1, None, None), (2, None, "y")), (3, None, None), (3, 1, None)),
            (("dist", "x", 2), ((1, 1, None), (2, 2, "y")), (3, 3, "z"), (3, 3, None)),
        ), self.check_bound)

    def check_bound(self, fact, rows, too_many, still_let):
        facts = (fact,) if fact[0] == "rows" else (("rows", 9), fact)
        made = filled(facts, *rows)
        self.unchanged(made, FactBroken("t", fact), made.lay, too_many)
        if still_let is not None:
            made.lay(still_let)
            self.assertEqual(len(made.lying), len(rows) + 1)

    def test_the_first_fact_as_told(self):
        facts = (("dist", "x", 9), ("key", ("a",)), ("rows", 1), ("fan", ("a",), 1))
        made = filled(facts, (1, 1, "x"))
        self.unchanged(made, FactBroken("t", ("key", ("a",))), made.lay, (1, 2, "y"))
        self.unchanged(made, FactBroken("t", ("rows", 1)), made.lay, (2, 2, "y"))

    def test_lift_out(self):
        made = filled([("rows", 9)], (1, 1, "x"), (2, None, "y"), (1, 1, "x"), (1, None, "x"), (2, None, "y"))
        made.add_index("ix", ("a",))
        self.same(made.lift_out(row=(1, 1, "x")), True)
        self.same(made.lying, ((2, None, "y"), (1, 1, "x"), (1, None, "x"), (2, None, "y")))
        self.same(made.indexed, {"ix": ((0,), (1, 2, 0, 3))})
        self.same(made.lift_out((2, None, "y")), True)
        self.same(made.lying, ((1, 1, "x"), (1, None, "x"), (2, None, "y")))
        before = state(made)
        for row in ((1, 2, "x"), (2, 0, "y"), (3, None, "y"), (1, 1, None), (1, 1, "")):
            self.same(made.lift_out(row), False)
        self.same(state(made), before)

    def test_indexes(self):
        made = filled([("rows", 9)], (2, 1, "x"), (1, None, "y"))
        self.assertIsNone(made.add_index(ixname="i", cols=("a",)))
        made.add_index("j", ("x", "b"))
        self.same(made.indexed, {"i": ((0,), (1, 0)), "j": ((2, 1), (0, 1))})
        made.lay((0, None, None))
        self.same(made.indexed, {"i": ((0,), (2, 1, 0)), "j": ((2, 1), (2, 0, 1))})
        self.assertIsNone(made.drop_index(ixname="i"))
        self.same(made.indexed, {"j": ((2, 1), (2, 0, 1))})
        made.add_index("i", ("b",))
        self.same(made.indexed["i"], ((1,), (1, 2, 0)))

    def test_indexes_refused(self):
        made = table(("rows", 9))
        made.add_index("i", ("a",))
        for cols in (("a",), ("z",), ("a", "a"), ("b",)):
            self.unchanged(made, TwiceNamed("i"), made.add_index, "i", cols)
        self.unchanged(made, NoName("z"), made.add_index, "j", ("a", "z", "y"))
        self.unchanged(made, NoName("z"), made.add_index, "j", ("a", "a", "z"))
        self.unchanged(made, TwiceNamed("a"), made.add_index, "j", ("b", "a", "a", "b"))
        self.unchanged(made, NoName("j"), made.drop_index, "j")
        self.unchanged(made, NoName("a"), made.drop_index, "a")
        made.drop_index("i")
        self.unchanged(made, NoName("i"), made.drop_index, "i")

    def test_retell(self):
        made = filled([("rows", 9)], (2, 1, "x"), (1, None, "y"), (2, 0, "z"), (1, 5, "y"))
        made.add_index("i", ("b",))
        facts = (("lies", ("a",)), ("rows", 4), ("fan", ("x",), 2))
        self.assertIsNone(made.retell(facts=facts))
        self.same(made.lying, ((1, None, "y"), (1, 5, "y"), (2, 1, "x"), (2, 0, "z")))
        self.same((made.facts, made.placed), (facts, (("lies", (0,)), ("rows", 4), ("fan", (2,), 2))))
        self.same(made.indexed, {"i": ((1,), (0, 3, 2, 1))})
        self.unchanged(made, FactBroken("t", ("rows", 4)), made.lay, (7, 7, "w"))
        # without a fact "lies" rows stay as they lie, and new ones come last
        made.retell((("rows", 9),))
        self.same(made.lying, ((1, None, "y"), (1, 5, "y"), (2, 1, "x"), (2, 0, "z")))
        made.lay((0, 0, None))
        self.same(made.lying[-1], (0, 0, None))

    def test_retell_refused(self):
        made = filled([("rows", 9)], (2, 1, "x"), (1, None, "y"))
        made.add_index("i", ("b",))
        self.unchanged(made, BadFact("rows"), made.retell, ())
        self.unchanged(made, BadFact("form"), made.retell, (("rows", 1), ("key",)))
        self.unchanged(made, BadFact("free"), made.retell, (("rows", 1), ("key", ("b",))))
        self.unchanged(made, FactBroken("t", ("rows", 1)), made.retell, (("lies", ("a",)), ("rows", 1), ("dist", "a", 1)))
        self.unchanged(made, FactBroken("t", ("dist", "a", 1)), made.retell, (("dist", "a", 1), ("rows", 1)))

    def test_two_at_once(self):
        one, other = table(("rows", 1)), table(("rows", 1))
        one.lay((1, 1, "x"))
        one.add_index("i", ("a",))
        self.same((other.lying, other.indexed), ((), {}))

    def test_after_any_deeds(self):
        """[29] each table keeps its facts, its rows rise, an index has each place once."""
        chance = random.Random(4)
        choices = (("key", ("a",)), ("fan", ("b",), 2), ("dist", "b", 2), ("lies", ("b", "a")), ("lies", ("x",)))
        for _ in range(40):
            made = table(("rows", 5))
            made.add_index("i", ("b",))
            made.add_index("j", ("x", "a"))
            for _ in range(40):
                row = (chance.randrange(3), chance.choice((None, 0, 1)), chance.choice((None, "p", "q")))
                facts = [("rows", chance.randrange(6))] + chance.sample(choices, 2)
                deed, told = chance.choice(((made.lay, row), (made.lay, row), (made.lift_out, row), (made.retell, tuple(facts))))
                before = state(made)
                try:
                    deed(told)
                except (FactBroken, BadFact):
                    self.same(state(made), before)
                self.assertIsNone(broken(made.placed, made.lying))
                for places, entries in made.indexed.values():
                    self.same(entries, entries_of(made.lying, places))
                    self.assertEqual(sorted(entries), list(range(len(made.lying))))


if __name__ == "__main__":
    unittest.main()
