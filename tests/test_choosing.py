"""[70] Choosing; [11] that nothing undercuts what is chosen."""

import random
import time
import unittest

import drawnplans
import helper
from leastplans.blockmeanings import means
from leastplans.blocks import block_of
from leastplans.ceilings import Ceilings
from leastplans.choosing import least
from leastplans.errors import TooMuch
from leastplans.founds import Found, floors_from
from leastplans.houses import House
from leastplans.judging import judged_top
from leastplans.listings import answer_of
from leastplans.memotables import Memo
from leastplans.ordering import alike_bags
from leastplans.planshapes import nodes_of
from leastplans.questionreading import read_question
from slowplans import WORDS, Every

SUMS = "select t.a, sum (t.b) as x, count (*) as n from t join s on t.a = s.a group by t.a"
T, S = ("scan", 0), ("scan", 1)


def words_of(top):
    return [node[0] for _, node in nodes_of(top)]


class LeastTest(helper.Case):

    def found(self, block, barred, top, price):
        for one in (least(block=block, barred=barred), least(block, barred)):
            self.assertIs(type(one), Found)
            self.same((one.top, one.price), (top, price))
            self.same(one.floors, floors_from(Memo(Ceilings(block), barred), (), price))

    def test_document(self):
        """SUMS of the head in its three forms."""
        house = helper.shop()
        block = helper.block(house, SUMS)
        self.found(block, (), ("give", ("bag", ("hash", ("bag", T), ("bag", S)))), 6070)
        self.found(block, ("early",), ("give", ("stream", ("loop", ("sort", T, (0,)), S))), 2015010)
        for table in "ts":
            house.retell(table, (("rows", 1000), ("dist", "a", 10), ("lies", ("a",))))
        found = least(helper.block(house, SUMS), ())
        self.same(found.price, 4050)
        self.same(found.top, ("give", ("stream", ("merge", ("stream", T), ("stream", S)))))

    def test_barred_words(self):
        """Each word by itself: what was the least without it is no more."""
        house = helper.store()
        house.retell("t", (("rows", 1000), ("fan", ("a",), 2), ("fan", ("b",), 3), ("dist", "x", 10)))
        house.retell("s", (("rows", 1000), ("fan", ("a",), 2), ("dist", "c", 5), ("lies", ("a",))))
        house.retell("p", (("rows", 1000), ("key", ("k",)), ("lies", ("k",))))
        house.add_index("t", "bya", ("a",))
        house.add_index("t", "byb", ("b",))
        house.add_index("s", "bya", ("a",))
        for word, text in [
            ("walk", "select t.a from t order by a"), ("seek", "select t.a from t where t.b = 3"),
            ("look", "select t.a, s.c from t, s where t.b = 3 and s.a = t.a"), ("hash", "select t.x, s.y from t, s where t.b = s.c"),
            ("merge", "select s.c, p.k from s, p where s.a = p.k"),
            ("stream", "select p.k, count (*) as n from p group by p.k"),
            ("early", "select s.c, count (*) as n, sum (t.b) as m from s, t where t.b = s.c group by s.c"),
        ]:
            with self.subTest(word=word):
                block = helper.block(house, text)
                one, other = least(block, ()), least(block, (word,))
                self.assertLess(one.price, other.price)
                self.assertIn(word if word != "early" else "bag", words_of(one.top))
                self.assertNotIn(word, words_of(other.top))
                self.same(other.price, min(price for price, _, _ in Every(block, (word,)).tops))
        block = helper.block(helper.shop(), SUMS)
        self.assertIn("sort", words_of(least(block, ("early",)).top))
        other = least(block, ("early", "sort"))
        self.assertNotIn("sort", words_of(other.top))
        self.same(other.price, 3004010)
        block = helper.block(house, "select t.x, s.y, p.k from t, s, p where t.b = s.c and p.k > t.a")
        found = least(block, WORDS)
        self.same(set(words_of(found.top)), {"give", "loop", "scan"})

    def test_two_pairs(self):
        """Two pairs with one first mark: the merge by the better one, whichever it is."""
        house = helper.store()
        house.retell("t", (("rows", 100), ("fan", ("a",), 50), ("lies", ("a",))))
        house.add_index("s", "one", ("a",))
        house.add_index("s", "two", ("c",))
        for tight, loose, ixname in (("a", "c", "one"), ("c", "a", "two")):
            house.retell("s", (("rows", 100), ("fan", (loose,), 60), ("fan", (tight,), 40)))
            block = helper.block(house, "select t.x from t left join s on s.a = t.a and s.c = t.a")
            found = least(block, ("hash", "look"))
            self.same((found.top, found.price), (("give", ("merge", T, ("walk", 1, ixname))), 8500))
            self.same(found.price, min(price for price, _, _ in Every(block, ("hash", "look")).tops))

    def test_beside_all_plans(self):
        """The least price beside that of all plans, for questions of each kind, with some words barred."""
        chance = random.Random(70)
        many = 0
        for chance, house, block in drawnplans.told_houses(701, 2, (4,)):
            barred = tuple(word for word in WORDS if chance.random() < 0.2)
            found = least(block, barred)
            every = Every(block, barred)
            self.same(found.price, min(price for price, _, _ in every.tops))
            self.same(judged_top(block, found.top)[1], found.price)
            listed = answer_of(house, block, found.top)
            self.assertTrue(listed == means(house, block) if block.listed else alike_bags(listed, means(house, block)))
            many += 1
        self.assertGreater(many, 50)

    def test_drawn_plans(self):
        """No drawn plan has a price below the least, for any questions; it always is found."""
        chance = random.Random(702)
        for _, block in helper.chance_blocks(703, 150):
            barred = tuple(word for word in WORDS if chance.random() < 0.2)
            found = least(block, barred)
            self.same(judged_top(block, found.top)[1], found.price)
            for top, _ in drawnplans.Drawn(chance, block, 10, barred).tops[-6:]:
                self.assertLessEqual(found.price, judged_top(block, top)[1])

    def test_floors(self):
        """floors_from of a Memo, with the floors of the sources, u rising."""
        text = ("select u.n, p.k from (select t.a, count (*) as n from t group by t.a) u, p "
                "where p.k in (select s.a from s limit 3) and not exists (from (select v.a from v limit 2) w where w.a = p.k)")
        block = helper.block(helper.store(), text)
        units = [u for u, unit in enumerate(block.units) if not isinstance(unit.source, str)]
        self.assertGreater(len(units), 2)
        for barred in ((), ("hash",)):
            found = least(block, barred)
            inner = tuple((u, least(block.units[u].source, barred).floors) for u in units)
            self.same(found.floors, floors_from(Memo(Ceilings(block), barred), inner, found.price))
            self.same(found.floors[0], inner)
        deep = "select t.a from t limit 3"
        for name in ("u", "w"):
            deep = f"select {name}.a from ({deep}) {name} limit 3"
        floors = least(helper.block(helper.store(), deep), ()).floors
        self.same((floors[0][0][0], floors[0][0][1][0][0][0], floors[0][0][1][0][0][1][0]), (0, 0, ()))

    def test_same_fields(self):
        """Blocks with the same fields have the same top and floors."""
        for seed in range(705, 708):
            tops = []
            for _ in range(2):
                told = [least(block, ()) for _, _, block in drawnplans.told_houses(seed, 1, (0,))]
                tops.append([(one.top, one.price, one.floors) for one in told])
            self.same(tops[0], tops[1])

    def test_rows_play_no_part(self):
        house = helper.shop()
        one = least(helper.block(house, SUMS), ())
        other = least(helper.block(helper.shop(rows=True), SUMS), ())
        self.same((one.top, one.price, one.floors), (other.top, other.price, other.floors))


class LargeTest(helper.Case):
    """Blocks as large as they may be end in good time."""

    def house(self):
        house = House()
        for name in "tsrp":
            columns = tuple((column, "number", column != "a") for column in "abcdef")
            house.add_table(name, columns, (
                ("rows", 200), ("dist", "a", 10), ("dist", "b", 20), ("fan", ("c",), 5), ("fan", ("a", "b"), 3), ("lies", tuple("abcdef"))))
            for ixname, cols in (("one", "abc"), ("two", "bcd"), ("three", "def")):
                house.add_index(name, ixname, tuple(cols))
        return house

    def test_large(self):
        house = self.house()
        four = ("select t.a, t.b, sum (s.c) as x from t, s, r, p where t.a = s.a and s.a = r.a and r.a = p.a and t.b = s.b "
                "and s.b = r.b and r.c = p.c and t.c = p.c and t.d = r.d and p.e > t.e and s.f = p.f "
                "group by t.a, t.b, t.c, s.d, r.e order by a, x")
        five = ("select t.a, t.b, s.c from t, s, r, p, t q where t.a = s.a and s.a = r.a and r.a = p.a and t.b = s.b and s.b = r.b "
                "and r.c = p.c and t.c = p.c and t.d = r.d and p.e > t.e and s.f = p.f and q.a = t.a and q.b = s.b and q.c = p.c "
                "and q.d = t.d order by a, c")
        lefts = ("select t.a, t.b, sum (s.c) as x from t left join s on t.a = s.a and t.b = s.b left join r on r.a = s.a and r.c = t.c "
                 "left join p on p.a = r.a and p.b = t.b group by t.a, t.b, s.c, r.d, p.e order by a, x")
        for text in (four, five, lefts, f"select u.a, u.x, w.x as y from ({four} limit 9) u, ({lefts}) w where u.a = w.a order by x"):
            block = helper.block(house, text)
            start = time.process_time()
            found = least(block, ())
            self.assertLess(time.process_time() - start, 20)
            self.same(judged_top(block, found.top)[1], found.price)


class FactsTest(helper.Case):
    """(G10) Tighter facts, more indexes, longer lying orders, fewer barred words: never a greater price."""

    def tighter(self, house, chance):
        """Changes a house so that each fact is at least as tight, and each index stands."""
        for table in ("t", "s", "p"):
            names = [name for name, _, _ in house.columns_of(table)]
            bound = [name for name, _, free in house.columns_of(table) if not free]
            facts = []
            for fact in house.facts_of(table):
                if fact[0] == "rows":
                    fact = ("rows", max(fact[1] - chance.choice((0, 0, 1, 5)), 0))
                if fact[0] == "dist":
                    fact = fact[:2] + (max(fact[2] - chance.choice((0, 1)), 1),)
                if fact[0] == "fan":
                    cols = fact[1][:chance.randrange(1, len(fact[1]) + 1)] if chance.random() < 0.3 else fact[1]
                    fact = ("fan", cols, max(fact[2] - chance.choice((0, 1, 2)), 1))
                    if set(cols) <= set(bound) and chance.random() < 0.3:
                        fact = ("key", cols)
                if fact[0] == "lies" and chance.random() < 0.5:
                    rest = [name for name in names if name not in fact[1]]
                    chance.shuffle(rest)
                    fact = ("lies", fact[1] + tuple(rest[:chance.randrange(len(rest) + 1)]))
                facts.append(fact)
            if "lies" not in [fact[0] for fact in facts] and chance.random() < 0.3:
                facts.append(("lies", (chance.choice(names),)))
            if chance.random() < 0.4:
                facts.append(chance.choice((("fan", (chance.choice(names),), 2), ("dist", chance.choice(names), 2))))
            if bound and chance.random() < 0.2:
                facts.append(("key", (bound[0],)))
            chance.shuffle(facts)
            house.retell(table, tuple(facts))
            if len(house.indexes_of(table)) < 3 and chance.random() < 0.5:
                house.add_index(table, "more", tuple(chance.sample(names, chance.randrange(1, min(3, len(names)) + 1))))

    def test_never_greater(self):
        chance = random.Random(706)
        lower = 0
        questions = [read_question(text) for text in drawnplans.TEXTS * 2]
        for question in questions + helper.chance_questions(707, 60) + helper.join_questions(708, 60):
            house = helper.store()
            chance.choice((helper.tell_facts, drawnplans.loose_facts))(house, chance)
            try:
                block = block_of(house, question)
            except TooMuch:
                continue
            barred = tuple(word for word in WORDS if chance.random() < 0.2)
            price = least(block, barred).price
            tops = drawnplans.Drawn(chance, block, 10).tops[-4:]
            told = [judged_top(block, top) for top, _ in tops]
            self.tighter(house, chance)
            other = block_of(house, question)
            found = least(other, barred[:chance.randrange(len(barred) + 1)])
            self.assertLessEqual(found.price, price)
            lower += found.price < price
            # each top is let still, at a price that is not greater, and its order begins with the one before
            for (top, _), (order, before, _) in zip(tops, told):
                now_order, now, _ = judged_top(other, top)
                self.assertLessEqual(now, before)
                self.same(now_order[:len(order)], order)
        self.assertGreater(lower, 50)


if __name__ == "__main__":
    unittest.main()
