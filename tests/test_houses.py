"""[28] [29] [4] houses and their editions."""

import unittest

import helper
from leastplans.errors import BadFact, BadRow, FactBroken, InUse, NoName, TwiceNamed
from leastplans.houses import House

COLUMNS = (("a", "number", False), ("b", "text", True))
ROWS = (("rows", 3),)
QUESTION = ("question", "any tree")


def state(house):
    """All that a house answers."""
    found = []
    for name in house.names():
        one = [name, house.kind_of(name), house.edition(name)]
        if house.kind_of(name) == "table":
            one += [house.columns_of(name), house.facts_of(name), house.lies_of(name), house.rows_of_table(name)]
            one += [(ixname, places, house.entries_of_index(name, ixname)) for ixname, places in house.indexes_of(name)]
        else:
            one += [house.question_of(name), house.uses_of(name)]
        found.append(one)
    return found


def sample():
    """A house with the tables t and s and the view v over t."""
    house = House()
    house.add_table("t", COLUMNS, ROWS)
    house.add_table("s", COLUMNS, (("lies", ("b", "a")), ("rows", 5)))
    house.lay_view("v", QUESTION, ("t",))
    house.put("t", (2, "x"))
    house.put("t", (1, None))
    house.add_index("t", "byb", ("b",))
    return house


class HouseTest(helper.Case):

    def unchanged(self, house, error, call, *told):
        before = state(house)
        number = self.next_number(house)
        self.refused(error, call, *told)
        self.same(state(house), before)
        self.same(self.next_number(house), number + 1)

    def next_number(self, house):
        """The number that the house gives now."""
        house.add_table("zz", COLUMNS, ROWS)
        number = house.edition("zz")
        house.drop("zz")
        return number

    def test_empty(self):
        house = House()
        self.same(house.names(), ())
        for ask in (house.kind_of, house.edition, house.columns_of, house.facts_of, house.lies_of, house.rows_of_table,
                    house.indexes_of, house.question_of, house.uses_of, house.drop):
            self.refused(NoName("t"), ask, "t")

    def test_example(self):
        house = House()
        house.add_table("t", COLUMNS, (("rows", 3), ("lies", ("a",))))
        for row in ((2, "x"), (1, None), (2, None)):
            house.put("t", row)
        house.add_index("t", "byb", ("b",))
        self.same((house.rows_of_table("t"), house.entries_of_index("t", "byb"), house.edition("t")),
                  ([(1, None), (2, "x"), (2, None)], (0, 2, 1), 2))
        self.unchanged(house, FactBroken("t", ("rows", 3)), house.put, "t", (2, "y"))

    def test_answers(self):
        house = sample()
        self.same(house.names(), ("s", "t", "v"))
        self.same([house.kind_of(name=name) for name in "stv"], ["table", "table", "view"])
        self.same(house.columns_of(table="t"), COLUMNS)
        self.same(house.facts_of(table="s"), (("lies", ("b", "a")), ("rows", 5)))
        self.same((house.lies_of(table="s"), house.lies_of("t")), ((1, 0), ()))
        self.same(house.rows_of_table(table="t"), [(2, "x"), (1, None)])
        self.same(house.rows_of_table("s"), [])
        house.add_index("t", "bya", ("a", "b"))
        self.same(house.indexes_of(table="t"), (("bya", (0, 1)), ("byb", (1,))))
        self.same(house.indexes_of("s"), ())
        self.same(house.entries_of_index(table="t", ixname="bya"), (1, 0))
        self.same((house.question_of(name="v"), house.uses_of(name="v")), (QUESTION, ("t",)))

    def test_refused_answers(self):
        house = sample()
        for ask in (house.columns_of, house.facts_of, house.lies_of, house.rows_of_table, house.indexes_of):
            self.refused(NoName("v"), ask, "v")
            self.refused(NoName("x"), ask, "x")
        for table in ("v", "x"):
            self.refused(NoName(table), house.entries_of_index, table, "byb")
            self.refused(NoName(table), house.entries_of_index, table, "none")
        self.refused(NoName("none"), house.entries_of_index, "t", "none")
        self.refused(NoName("byb"), house.entries_of_index, "s", "byb")
        for ask in (house.question_of, house.uses_of):
            self.refused(NoName("t"), ask, "t")
            self.refused(NoName("x"), ask, "x")
        for ask in (house.kind_of, house.edition):
            self.refused(NoName("x"), ask, "x")

    def test_deeds_return(self):
        house = House()
        self.assertIsNone(house.add_table(name="t", columns=COLUMNS, facts=ROWS))
        self.assertIsNone(house.lay_view(name="v", question=QUESTION, uses=("t",)))
        self.assertIsNone(house.put(table="t", row=(1, "x")))
        self.assertIsNone(house.add_index(table="t", ixname="i", cols=("a",)))
        self.assertIsNone(house.retell(table="t", facts=ROWS))
        self.same(house.take(table="t", row=(1, None)), False)
        self.same(house.take("t", (1, "x")), True)
        self.same(house.take("t", (1, "x")), False)
        self.assertIsNone(house.drop_index(table="t", ixname="i"))
        self.assertIsNone(house.drop(name="v"))
        self.assertIsNone(house.drop("t"))
        self.same(house.names(), ())

    def test_refused_tables_and_views(self):
        house = sample()
        twice = (("a", "number", False), ("a", "number", False))
        for name in ("t", "v"):
            self.unchanged(house, TwiceNamed(name), house.add_table, name, COLUMNS, ROWS)
            self.unchanged(house, TwiceNamed(name), house.add_table, name, twice, ())
            self.unchanged(house, TwiceNamed(name), house.lay_view, name, QUESTION, ())
        self.unchanged(house, TwiceNamed("a"), house.add_table, "n", twice, ())
        self.unchanged(house, BadFact("rows"), house.add_table, "n", COLUMNS, ())
        # nothing else is looked at
        house.lay_view("w", None, ("none", "s"))
        self.same((house.question_of("w"), house.uses_of("w")), (None, ("none", "s")))

    def test_refused_drops(self):
        house = sample()
        self.unchanged(house, NoName("x"), house.drop, "x")
        self.unchanged(house, NoName("byb"), house.drop, "byb")
        self.unchanged(house, InUse("t"), house.drop, "t")
        house.lay_view("w", QUESTION, ("s", "v"))
        self.unchanged(house, InUse("v"), house.drop, "v")
        self.unchanged(house, InUse("s"), house.drop, "s")
        house.lay_view("odd", QUESTION, ("none",))
        self.unchanged(house, NoName("none"), house.drop, "none")
        house.drop("odd")
        for name in ("w", "v", "t", "s"):
            house.drop(name)
            self.assertNotIn(name, house.names())
            self.refused(NoName(name), house.edition, name)
        self.refused(NoName("t"), house.rows_of_table, "t")

    def test_refused_deeds_on_tables(self):
        house = sample()
        for table in ("v", "x"):
            error = NoName(table)
            self.unchanged(house, error, house.add_index, table, "byb", ("z",))
            self.unchanged(house, error, house.drop_index, table, "none")
            self.unchanged(house, error, house.retell, table, ())
            self.unchanged(house, error, house.put, table, 7)
            self.unchanged(house, error, house.take, table, 7)
        self.unchanged(house, TwiceNamed("byb"), house.add_index, "t", "byb", ("z",))
        self.unchanged(house, NoName("z"), house.add_index, "t", "n", ("a", "a", "z"))
        self.unchanged(house, TwiceNamed("a"), house.add_index, "t", "n", ("a", "a"))
        self.unchanged(house, NoName("none"), house.drop_index, "t", "none")
        self.unchanged(house, NoName("byb"), house.drop_index, "s", "byb")
        self.unchanged(house, BadFact("number"), house.retell, "t", (("rows", -1),))
        self.unchanged(house, FactBroken("t", ("rows", 1)), house.retell, "t", (("rows", 1),))
        self.unchanged(house, BadRow("row"), house.put, "t", [1, "x"])
        self.unchanged(house, BadRow("kind"), house.take, "t", ("x", "x"))
        for value in helper.ODD_VALUES:
            why = "length" if isinstance(value, tuple) else "row"
            if value != ("x", "y", "z", "u"):
                self.unchanged(house, BadRow(why), house.put, "t", value)

    def test_editions(self):
        house = House()
        seen = []

        def edition_of(name):
            seen.append(house.edition(name))
            return seen[-1]
        house.add_table("t", COLUMNS, ROWS)
        self.same(edition_of("t"), 1)
        house.add_table("s", COLUMNS, ROWS)
        self.same((edition_of("s"), house.edition("t")), (2, 1))
        house.lay_view("v", QUESTION, ())
        self.same(edition_of("v"), 3)
        house.add_index("t", "i", ("a",))
        self.same(edition_of("t"), 4)
        house.drop_index("t", "i")
        self.same(edition_of("t"), 5)
        house.retell("t", ROWS)
        self.same((edition_of("t"), house.edition("s"), house.edition("v")), (6, 2, 3))
        # these give no number
        house.put("t", (1, "x"))
        house.take("t", (1, "x"))
        house.take("t", (1, "x"))
        house.drop("v")
        self.same((house.edition("t"), house.edition("s")), (6, 2))
        for call, told in (
            (house.put, ("t", 7)), (house.add_table, ("t", COLUMNS, ROWS)), (house.add_index, ("t", "j", ("z",))),
            (house.drop_index, ("t", "j")), (house.retell, ("t", ())), (house.lay_view, ("t", QUESTION, ())),
            (house.drop, ("x",)), (house.add_table, ("n", COLUMNS, ())),
        ):
            self.assertRaises(Exception, call, *told)
        house.lay_view("v", QUESTION, ())
        self.same(edition_of("v"), 7)
        house.drop("t")
        house.add_table("t", COLUMNS, ROWS)
        self.same(edition_of("t"), 8)
        self.assertEqual(len(seen), len(set(seen)))

    def test_dropped_and_made_again(self):
        house = sample()
        house.drop("v")
        house.drop("t")
        house.add_table("t", COLUMNS[:1], (("rows", 1),))
        self.same(house.rows_of_table("t"), [])
        self.same(house.indexes_of("t"), ())
        self.same(house.columns_of("t"), COLUMNS[:1])
        house.put("t", (5,))
        self.same(house.rows_of_table("t"), [(5,)])
        # a view can have the name of what was a table
        house.drop("t")
        house.lay_view("t", QUESTION, ())
        self.same(house.kind_of("t"), "view")
        self.refused(NoName("t"), house.columns_of, "t")

    def test_what_is_returned_belongs_to_the_caller(self):
        house = sample()
        rows = house.rows_of_table("t")
        rows.append(None)
        rows[0] = 7
        self.same(house.rows_of_table("t"), [(2, "x"), (1, None)])
        self.assertIsNot(house.rows_of_table("t"), house.rows_of_table("t"))
        before = house.rows_of_table("t"), house.names(), house.entries_of_index("t", "byb"), house.indexes_of("t")
        house.put("t", (0, "w"))
        house.add_table("n", COLUMNS, ROWS)
        house.add_index("t", "bya", ("a",))
        self.same(before, ([(2, "x"), (1, None)], ("s", "t", "v"), (1, 0), (("byb", (1,)),)))

    def test_two_houses(self):
        one, other = sample(), sample()
        one.put("t", (9, None))
        one.add_index("t", "n", ("a",))
        one.drop("s")
        one.add_table("n", COLUMNS, ROWS)
        self.same(state(other), state(sample()))


if __name__ == "__main__":
    unittest.main()
