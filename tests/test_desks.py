"""[90] to [94] The desk."""

import random
import unittest

import drawnplans
import helper
from leastplans import desks, errors
from leastplans.blocks import Block, block_of
from leastplans.choosing import least
from leastplans.cursors import Cursor, drained
from leastplans.desks import Desk
from leastplans.explaining import explained
from leastplans.founds import Found
from leastplans.houses import House
from leastplans.keptplans import Kept
from leastplans.listings import answer_of
from leastplans.meanings import meaning
from leastplans.ordering import alike_bags
from leastplans.plantexts import plan_text
from leastplans.putting import used
from leastplans.questionreading import read_question
from leastplans.showing import shown
from leastplans.views import make_view

TEXT = "select t.b, t.a from t"
ROWS = ("rows", 9)


class KeptTest(helper.Case):

    def test_fields(self):
        kept = Kept(used=(("t", 1),), block=5, found=Found(1, 2, 3))
        self.same((kept.used, kept.block, kept.found.top), ((("t", 1),), 5, 1))
        kept = Kept((), None, 7)
        self.same((kept.used, kept.block, kept.found), ((), None, 7))


class DeskCase(helper.Case):

    def setUp(self):
        self.house = House()
        self.house.add_table("t", (("a", "number", False), ("b", "number", True)), (("rows", 4), ("lies", ("a",))))
        self.house.add_table("s", (("a", "number", False), ("c", "number", True)), (ROWS,))
        self.house.put("t", (2, None))
        self.house.put("t", (1, 7))
        self.house.put("s", (1, 5))
        self.desk = Desk(house=self.house)

    def state(self, text, is_kept, made):
        self.same((self.desk.is_kept(text), self.desk.made()), (is_kept, made))


class DocumentTest(DeskCase):

    def test_document(self):
        desk = self.desk
        self.same((desk.ask(TEXT), desk.is_kept(TEXT), desk.made()), ([(7, 1), (None, 2)], True, 1))
        self.house.add_index("t", "byb", ("b",))
        self.same((desk.hand(TEXT, "give\n  walk 0 byb"), desk.is_kept(TEXT), desk.made()), ([(None, 2), (7, 1)], False, 1))
        self.same((desk.price_of(TEXT), desk.is_kept(TEXT), desk.made()), (8, True, 2))
        self.refused(errors.BadPlan((0,), "unit"), desk.hand, TEXT, "give\n  scan 1")


class MethodsTest(DeskCase):

    def test_new_desk(self):
        self.state(TEXT, False, 0)

    def test_each_method(self):
        """Each method takes a Kept: it makes one, or finds one; its answer is the same."""
        block = block_of(self.house, read_question(TEXT))
        found = least(block, ())
        wanted = {
            "plan_of": found.top, "price_of": found.price, "floors_of": found.floors, "explain": explained(block, found.top),
            "ask": [(7, 1), (None, 2)],
        }
        for name, one in wanted.items():
            self.desk = Desk(self.house)
            for _ in range(2):
                self.same(getattr(self.desk, name)(TEXT), one)
                self.same(getattr(self.desk, name)(text=TEXT), one)
                self.state(TEXT, True, 1)
        self.desk = Desk(self.house)
        for _ in range(2):
            told = self.desk.block_told(text=TEXT)
            self.assertIs(type(told), Block)
            self.same(told, block)
            self.state(TEXT, True, 1)
        self.desk = Desk(self.house)
        for _ in range(2):
            cursor = self.desk.cursor_of(text=TEXT)
            self.assertIs(type(cursor), Cursor)
            self.same((cursor.total(), cursor.done(), cursor.page(1)), (0, False, [(7, 1)]))
            self.state(TEXT, True, 1)
        self.same((self.desk.ask(TEXT), cursor.page(5)), ([(7, 1), (None, 2)], [(None, 2)]))
        self.desk = Desk(self.house)
        self.same(self.desk.hand(text=TEXT, plantext="give\n  scan 0"), [(7, 1), (None, 2)])
        self.state(TEXT, False, 0)
        self.same((self.desk.is_kept(text=TEXT), self.desk.made()), (False, 0))

    def test_one_kept(self):
        """All methods share it, and what it holds is made but once."""
        calls = []
        real = desks.least
        desks.least = lambda block, barred: calls.append(barred) or real(block, barred)
        try:
            for name in ("block_told", "plan_of", "price_of", "floors_of", "explain", "cursor_of", "ask", "is_kept"):
                getattr(self.desk, name)(TEXT)
        finally:
            desks.least = real
        self.same(calls, [()])
        self.assertIs(self.desk.block_told(TEXT), self.desk.block_told(TEXT))

    def test_new_lists(self):
        for call in (lambda: self.desk.ask(TEXT), lambda: self.desk.hand(TEXT, "give\n  scan 0")):
            one = call()
            self.assertIs(type(one), list)
            one.append(7)
            self.same(call(), [(7, 1), (None, 2)])

    def test_one_tree(self):
        """Texts with one tree share one Kept; other trees have their own."""
        for text in (TEXT, "  select t.b,t.a from t ", "select t.b as b, t.a as a from t t", "select t.b, t.a   from t"):
            self.desk.ask(text)
            self.state(text, True, 1)
        for made, text in enumerate(("select t.a, t.b from t", "select u.b, u.a from t u", "select t.b, t.a from t limit 9",
                                     "select t.b, t.a from t order by b", "select distinct t.b, t.a from t"), 1):
            self.state(text, False, made)
            self.desk.ask(text)
            self.state(text, True, made + 1)
        self.state(TEXT, True, 6)

    def test_two_desks(self):
        """They share none, whether they have one house or two."""
        other, third = Desk(self.house), Desk(House())
        self.desk.ask(TEXT)
        self.same((other.is_kept(TEXT), other.made(), third.is_kept(TEXT), third.made()), (False, 0, False, 0))
        other.price_of(TEXT)
        self.same((self.desk.made(), other.made(), other.is_kept(TEXT)), (1, 1, True))
        self.refused(errors.NoName("t"), third.ask, TEXT)
        self.house.add_index("t", "x", ("a",))
        self.desk.ask(TEXT)
        self.same((self.desk.is_kept(TEXT), other.is_kept(TEXT), self.desk.made(), other.made()), (True, False, 2, 1))

    def test_house_is_not_changed(self):
        before = [(name, self.house.edition(name), self.house.rows_of_table(name), self.house.indexes_of(name)) for name in self.house.names()]
        for text in (TEXT, "select t.a, s.c from t, s where t.a = s.a order by c"):
            for name in ("block_told", "plan_of", "price_of", "floors_of", "explain", "cursor_of", "ask", "is_kept"):
                getattr(self.desk, name)(text)
        self.same([(name, self.house.edition(name), self.house.rows_of_table(name), self.house.indexes_of(name)) for name in self.house.names()], before)


class AnewTest(DeskCase):
    """When a Kept is made anew."""

    def deed(self, text, stays, deed, *told):
        """Behind a deed the Kept is still kept, or is not, and then one is made."""
        with self.subTest(text=text, deed=deed.__name__, told=told):
            self.desk.ask(text)
            made = self.desk.made()
            self.state(text, True, made)
            try:
                deed(*told)
            except errors.PlanError:
                self.assertTrue(stays)
            self.state(text, stays, made)
            self.desk.ask(text)
            self.state(text, True, made + (not stays))
            self.assertTrue(alike_bags(self.desk.ask(text), meaning(self.house, read_question(text))))

    def test_deeds(self):
        house = self.house
        for stays, deed, *told in [
            (True, house.put, "t", (3, 4)), (True, house.take, "t", (3, 4)), (True, house.take, "t", (8, 8)), (True, house.put, "s", (3, 4)),
            (False, house.add_index, "t", "byb", ("b",)), (True, house.add_index, "s", "bya", ("a",)), (False, house.drop_index, "t", "byb"),
            (False, house.retell, "t", (("rows", 4), ("lies", ("a",)))), (False, house.retell, "t", (("rows", 5),)), (True, house.retell, "s", (("rows", 7),)),
            (True, make_view, house, "v", TEXT), (True, house.drop, "v"), (True, house.add_table, "r", house.columns_of("t"), (ROWS,)),
            (True, house.drop, "r"), (True, house.drop, "s"),
            # deeds that are refused
            (True, house.retell, "t", (("rows", 1),)), (True, house.retell, "t", ()), (True, house.add_index, "t", "x", ("none",)),
            (True, house.add_index, "t", "x", ("a", "a")), (True, house.drop_index, "t", "none"), (True, house.put, "t", (1,)),
            (True, house.put, "t", (None, 1)), (True, house.add_table, "t", house.columns_of("t"), (ROWS,)), (True, house.drop, "none"),
        ]:
            self.deed(TEXT, stays, deed, *told)

    def test_dropped_and_made_again(self):
        columns, facts = self.house.columns_of("t"), self.house.facts_of("t")
        self.desk.ask(TEXT)
        self.house.drop("t")
        self.state(TEXT, False, 1)
        for name in ("ask", "block_told", "plan_of", "price_of", "floors_of", "explain", "cursor_of"):
            self.refused(errors.NoName("t"), getattr(self.desk, name), TEXT)
            self.state(TEXT, False, 1)
        self.refused(errors.NoName("t"), self.desk.hand, TEXT, "give\n  scan 0")
        self.house.add_table("t", columns, facts)
        self.state(TEXT, False, 1)
        self.same(self.desk.ask(TEXT), [])
        self.state(TEXT, True, 2)
        # as a view, with other columns
        self.house.drop("t")
        make_view(self.house, "t", "select s.c as b, s.a from s")
        self.state(TEXT, False, 2)
        self.same(self.desk.ask(TEXT), [(5, 1)])
        self.state(TEXT, True, 3)
        self.house.drop("t")
        self.house.add_table("t", columns[:1], facts)
        self.state(TEXT, False, 3)
        self.refused(errors.NoName("b"), self.desk.ask, TEXT)
        self.state(TEXT, False, 3)

    def test_views(self):
        """Of the names used, and of the uses of the views among them, again and again."""
        house = self.house
        make_view(house, "v", "select t.a, t.b from t where t.a < 9")
        make_view(house, "w", "select v.a from v where v.a in (select s.a from s)")
        text = "select w.a from w"
        for stays, deed, *told in [
            (True, house.put, "t", (3, 4)), (False, house.add_index, "t", "byb", ("b",)), (False, house.add_index, "s", "bya", ("a",)),
            (False, house.retell, "s", (("rows", 7),)), (True, house.drop, "v"), (True, house.drop, "t"), (True, make_view, house, "x", TEXT),
            (True, make_view, house, "v", TEXT), (True, house.drop, "x"), (False, house.drop_index, "t", "byb"),
        ]:
            self.deed(text, stays, deed, *told)
        # the same view made again
        self.desk.ask(text)
        made = self.desk.made()
        house.drop("w")
        self.state(text, False, made)
        self.refused(errors.NoName("w"), self.desk.ask, text)
        make_view(house, "w", "select v.a from v where v.a in (select s.a from s)")
        self.state(text, False, made)
        self.desk.price_of(text)
        self.state(text, True, made + 1)

    def test_withs(self):
        """Names told by with go ahead of those of the house; one that nothing names counts, too."""
        house = self.house
        text = "with t as (select s.c as a from s) select t.a from t"
        for stays, deed, *told in [(True, house.add_index, "t", "byb", ("b",)), (False, house.add_index, "s", "bya", ("a",)),
                                   (True, house.retell, "t", (("rows", 5),)), (False, house.retell, "s", (("rows", 7),)), (True, house.drop, "t")]:
            self.deed(text, stays, deed, *told)
        house.add_table("t", house.columns_of("s"), (ROWS,))
        text = "with u as (select t.a from t) select s.a from s"
        for stays, deed, *told in [(False, house.add_index, "t", "byb", ("c",)), (False, house.drop_index, "s", "bya")]:
            self.deed(text, stays, deed, *told)
        self.desk.ask(text)
        house.drop("t")
        self.same(self.desk.is_kept(text), False)
        self.refused(errors.NoName("t"), self.desk.ask, text)

    def test_errors_keep_nothing(self):
        self.desk.ask(TEXT)
        for text, error in [
            ("select", errors.BadText(6)), ("", errors.BadText(0)), ("select t.a from t where 1 = 'x'", errors.BadKind("where")),
            ("select x.a from x", errors.NoName("x")), ("select t.a, t.a from t", errors.TwiceNamed("a")),
            ("select t.a from t where sum (t.a) = 1", errors.BadPlace("agg")),
            ("select u.a from " + ", ".join(["t u"] + [f"t u{at}" for at in range(5)]), errors.TooMuch("units")),
        ]:
            for name in ("ask", "block_told", "plan_of", "price_of", "floors_of", "explain", "cursor_of"):
                self.refused(error, getattr(self.desk, name), text)
            self.refused(error, self.desk.hand, text, "give\n  scan 0")
            # is_kept raises what read_question raises, and nothing else
            if isinstance(error, errors.BadText):
                self.refused(error, self.desk.is_kept, text)
                self.same(self.desk.made(), 1)
            else:
                self.state(text, False, 1)
        self.refused(errors.TooMuch("items"), self.desk.is_kept, "select " + ", ".join(["t.a"] * 9) + " from t")
        self.state(TEXT, True, 1)

    def test_what_is_kept(self):
        """Found or made: the kept plan is the one that would be made."""
        chance = random.Random(94)
        texts = [text for text in drawnplans.TEXTS if chance.random() < 0.5]
        house = helper.store()
        drawnplans.loose_facts(house, chance)
        desk = Desk(house)
        made = 0
        names = {}
        for _ in range(120):
            text = chance.choice(texts)
            tree = read_question(text)
            now = used(house, tree)
            self.same(desk.is_kept(text), names.get(shown(tree)) == now)
            found = least(block_of(house, tree), ())
            self.same((desk.plan_of(text), desk.price_of(text), desk.floors_of(text)), (found.top, found.price, found.floors))
            made += names.get(shown(tree)) != now
            names[shown(tree)] = now
            self.same((desk.made(), desk.is_kept(text)), (made, True))
            self.deeds(house, chance)
            wanted = meaning(house, tree)
            rows = desk.ask(text)
            block = block_of(house, tree)
            self.assertTrue(rows == wanted if block.listed else alike_bags(rows, wanted))
            made = desk.made()
            names[shown(tree)] = used(house, tree)

    def deeds(self, house, chance):
        """Some deeds by chance."""
        helper.put_let(house, chance, 1)
        table = chance.choice("tsp")
        if chance.random() < 0.3:
            names = [name for name, *_ in house.columns_of(table)]
            if house.indexes_of(table):
                house.drop_index(table, house.indexes_of(table)[0][0])
            else:
                house.add_index(table, "new", (chance.choice(names),))
        if chance.random() < 0.1:
            house.retell(table, house.facts_of(table))


class HandTest(DeskCase):

    def test_errors_in_sequence(self):
        """Those of the question, those of the block, those of the text of the plan, those of judging."""
        bad = "select t.a from"
        self.refused(errors.BadText(15), self.desk.hand, bad, "x")
        self.refused(errors.NoName("x"), self.desk.hand, "select x.a from x", "x")
        self.refused(errors.BadPlanText(0), self.desk.hand, TEXT, "x")
        self.refused(errors.BadPlanText(0), self.desk.hand, TEXT, "")
        self.refused(errors.BadPlanText(1), self.desk.hand, TEXT, "give\n scan 9")
        self.refused(errors.BadPlanText(3), self.desk.hand, TEXT, "give\n  bag\n    scan 0\n")
        self.refused(errors.BadPlan((0,), "unit"), self.desk.hand, TEXT, "give\n  scan 9")
        self.refused(errors.BadPlan((0,), "plain"), self.desk.hand, TEXT, "give\n  bag\n    scan 0")
        self.refused(errors.BadPlan((), "plain"), self.desk.hand, TEXT, "give sorted\n  scan 0")
        self.refused(errors.BadPlan((0,), "index"), self.desk.hand, TEXT, "give\n  walk 0 byb")
        self.refused(errors.BadPlan((0,), "unit"), self.desk.hand, TEXT, "give\n  scan " + "9" * 60)
        self.state(TEXT, False, 0)

    def test_rows(self):
        """Any plan that is let, with the house as it is now."""
        text = "select t.b, s.c from t, s where t.a = s.a"
        for plan in ("give\n  hash\n    scan 0\n    scan 1", "give\n  loop\n    scan 1\n    scan 0", "give\n  merge\n    scan 0\n    sort 0\n      scan 1"):
            self.same(self.desk.hand(text, plan), [(7, 5)])
            self.house.put("s", (1, 5))
            self.same(self.desk.hand(text, plan), [(7, 5), (7, 5)])
            self.house.take("s", (1, 5))
        self.state(text, False, 0)
        self.desk.ask(text)
        self.desk.hand(text, "give\n  hash\n    scan 0\n    scan 1")
        self.state(text, True, 1)

    def test_drawn_plans(self):
        for chance, house, block in drawnplans.told_houses(930, 1, (6,)):
            desk = Desk(house)
            text = self.text_of(house, block)
            for top, _ in drawnplans.Drawn(chance, block, 12).tops[-3:]:
                rows = desk.hand(text, plan_text(top))
                self.same(rows, answer_of(house, block, top))
                self.same(rows, drained(Cursor(house, block, top)))
                wanted = meaning(house, read_question(text))
                self.assertTrue(rows == wanted if block.listed else alike_bags(rows, wanted))
            self.same(desk.made(), 0)

    def text_of(self, house, block):
        """The one of TEXTS whose block has these fields."""
        return next(text for text in drawnplans.TEXTS if helper.kinds(helper.block(house, text)) == helper.kinds(block))

    def test_deep(self):
        deep = "\n".join(["give"] + ["  " * (at + 1) + "bag" for at in range(1500)] + ["  " * 1501 + "scan 0"])
        self.refused(errors.BadPlan((0,) * 1500, "plain"), self.desk.hand, TEXT, deep)
        self.refused(errors.BadPlan((0,) * 1499, "twice"), self.desk.hand, "select count (*) as n from t", deep)


if __name__ == "__main__":
    unittest.main()
