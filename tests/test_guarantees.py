"""[11] The guarantees, over the whole program; [2] that nothing is changed, and that results are new."""

import copy
import random
import unittest

import drawnplans
import helper
from leastplans import errors
from leastplans.blockmeanings import means
from leastplans.blocks import block_of
from leastplans.ceilings import Ceilings, ceiling
from leastplans.choosing import least
from leastplans.countings import sorted_counted
from leastplans.cursors import Cursor, drained
from leastplans.desks import Desk
from leastplans.explaining import explained
from leastplans.floorchecks import floors_fit
from leastplans.floorreads import floor_of, give_floor
from leastplans.floorrows import is_floors
from leastplans.folds import added, scaled
from leastplans.founds import floors_from
from leastplans.joinsteps import joined_state, why_join
from leastplans.judging import judged, judged_top
from leastplans.leafways import leaf_ways
from leastplans.listings import answer_of, rows_of
from leastplans.meanings import meaning
from leastplans.memotables import Memo
from leastplans.opening import line_runs, open_run, open_top
from leastplans.ordering import alike_bags
from leastplans.planreadings import read_plan
from leastplans.plantexts import plan_text
from leastplans.putting import used
from leastplans.questionreading import read_question
from leastplans.showing import shown
from leastplans.states import all_states, seen
from leastplans.stepceilings import step_ceilings
from leastplans.stepways import gives_over, over_one, over_two, sorts_over
from leastplans.takings import leaf_row

SUMS = "select t.a, sum (t.b) as x, count (*) as n from t join s on t.a = s.a group by t.a"


def chance_house(chance, most=6):
    """A house like helper.store() with facts, indexes and rows by chance."""
    house = helper.store()
    chance.choice((helper.tell_facts, drawnplans.loose_facts))(house, chance)
    helper.put_let(house, chance, chance.randrange(most))
    return house


def limited(question, limit):
    return question[:9] + (limit,)


class AnswersTest(helper.Case):

    def asked(self, seed, many):
        """(chance, house, question, block) by chance."""
        chance = random.Random(seed)
        told = [read_question(text) for text in chance.sample(drawnplans.TEXTS, 20)]
        for question in told + helper.chance_questions(seed, many) + helper.join_questions(seed + 1, many):
            house = chance_house(chance)
            try:
                yield chance, house, question, block_of(house, question)
            except errors.TooMuch:
                continue

    def alike(self, block, found, wanted):
        if block.listed:
            self.same(found, wanted)
        else:
            self.assertTrue(alike_bags(found, wanted))

    def test_trees(self):
        """(G1) The tree of a text is that of its shown text, and of no text with another one."""
        by_text = {}
        for _, _, question, _ in self.asked(1101, 60):
            self.same(read_question(shown(question)), question)
            self.same(by_text.setdefault(shown(question), question), question)

    def test_answers(self):
        """(G3) (G4) (G8) Answers beside plain loops, for the chosen plan and for drawn ones."""
        for chance, house, question, block in self.asked(1102, 60):
            wanted = meaning(house, question)
            self.alike(block, means(house, block), wanted)
            found = least(block, ())
            self.alike(block, drained(Cursor(house, block, found.top)), wanted)
            self.alike(block, Desk(house).ask(shown(question)), wanted)
            for top, _ in drawnplans.Drawn(chance, block, 8).tops[-3:]:
                self.assertGreaterEqual(judged_top(block, top)[1], found.price)
                self.alike(block, drained(Cursor(house, block, top)), wanted)

    def test_one_bag(self):
        """(G4) Any two plans with one state have the same bag."""
        for chance, house, _, block in self.asked(1103, 25):
            bags = {}
            for plan, state, _ in drawnplans.Drawn(chance, block, 15).pool:
                found = rows_of(house, block, plan)
                self.assertTrue(alike_bags(found, bags.setdefault(state, found)))

    def test_ceilings(self):
        """(G5) At most so many rows are alike; more marks, no greater; of a joined state at most the product."""
        for chance, house, _, block in self.asked(1104, 25):
            pool = drawnplans.Drawn(chance, block, 12).pool
            for plan, state, _ in pool:
                marks = seen(block, state)
                some = tuple(chance.sample(marks, chance.randrange(len(marks) + 1)))
                fewer = some[:chance.randrange(len(some) + 1)]
                keys = [tuple(row[0][marks.index(mark)] for mark in some) for row in rows_of(house, block, plan)]
                most = max((keys.count(key) for key in keys), default=0)
                self.assertLessEqual(most, ceiling(block, state, some))
                self.assertLessEqual(ceiling(block, state, some), ceiling(block, state, fewer))
                _, right, _ = chance.choice(pool)
                if right[0] != "side" and why_join(Ceilings(block), "loop", (state, ()), (right, ())) is None:
                    other = seen(block, right)
                    both = joined_state(state, right)
                    every = seen(block, both)
                    some = tuple(chance.sample(every, chance.randrange(len(every) + 1)))
                    one = ceiling(block, state, tuple(mark for mark in some if mark in marks))
                    self.assertLessEqual(ceiling(block, both, some), one * ceiling(block, right, tuple(mark for mark in some if mark in other)))

    def test_listed(self):
        """(G11) A listed answer is one list, whatever plan, pages, facts, indexes; smaller limits begin it."""
        many = 0
        for chance, house, question, block in self.asked(1105, 120):
            if not block.listed:
                continue
            many += 1
            wanted = meaning(house, limited(question, 1000))
            limit = chance.randrange(len(wanted) + 2)
            other = helper.store()
            other.retell("p", (("rows", 100),))
            for table in "tsp":
                for row in chance.sample(house.rows_of_table(table), len(house.rows_of_table(table))):
                    other.put(table, row)
            other.add_index("t", "some", ("b", "a"))
            for one in (house, other):
                asked = block_of(one, limited(question, limit))
                for top in [least(asked, ()).top] + [top for top, _ in drawnplans.Drawn(chance, asked, 6).tops[-2:]]:
                    cursor = Cursor(one, asked, top)
                    found = cursor.page(1) + cursor.page(chance.randrange(1, 5)) + drained(cursor)
                    self.same(found, wanted[:limit])
        self.assertGreater(many, 20)

    def test_states(self):
        """(G13) How many states a block of n core units has."""
        house = helper.store()
        for many, grouped, plain in ((1, 2, 1), (2, 9, 3), (3, 36, 7), (4, 150, 15)):
            sources = ", ".join(f"t u{at}" for at in range(many))
            self.same(len(all_states(helper.block(house, f"select u0.a from {sources}"))), plain)
            self.same(len(all_states(helper.block(house, f"select u0.a, count (*) as n from {sources} group by u0.a"))), grouped)
        self.same(len(all_states(helper.block(house, "select u0.a from " + ", ".join(f"t u{at}" for at in range(5))))), 31)

    def test_found_floors(self):
        """(G9) The floors of the chosen top fit, and no drawn plan is below them."""
        for chance, _, _, block in self.asked(1106, 30):
            found = least(block, ())
            self.same(floors_fit(block, found.floors, ()), None)
            at = chance.randrange(len(found.floors[1]))
            row = found.floors[1][at]
            raised = found.floors[1][:at] + (row[:3] + (row[3] + 1,),) + found.floors[1][at + 1:]
            self.assertIsNotNone(floors_fit(block, (found.floors[0], raised, found.price), ()))
            drawn = drawnplans.Drawn(chance, block, 10)
            for plan, state, order in drawn.pool:
                self.assertLessEqual(floor_of(found.floors, state, order), judged(block, plan)[2])
            for top, order in drawn.tops:
                self.assertLessEqual(give_floor(found.floors, order), judged_top(block, top)[1])

    def test_runs(self):
        """(G6) (G7) At each moment each line has counted, and given, at most what it may."""
        for chance, house, _, block in self.asked(1107, 40):
            for top in [least(block, ()).top] + [top for top, _ in drawnplans.Drawn(chance, block, 6).tops[-2:]]:
                most = [told[2:4] for told in step_ceilings(block, top)]
                run = open_top(house, block, top)
                wanted = answer_of(house, block, top)
                while run.pull() is not None:
                    self.assertTrue(all(one.given <= rows and one.spent <= steps for (_, one), (rows, steps) in zip(line_runs(run), most)))
                    if house.rows_of_table("p"):
                        house.take("p", house.rows_of_table("p")[0])
                self.assertTrue(all(one.given <= rows and one.spent <= steps for (_, one), (rows, steps) in zip(line_runs(run), most)))
                self.same(run.given, len(wanted))

    def test_full_tables(self):
        """Tables as full as the facts let them be come near the price: some steps cost all that they may."""
        exact = 0
        for seed in range(20):
            house = helper.shop()
            for table in "ts":
                house.retell(table, (("rows", 12), ("fan", ("a",), 3), ("dist", "a", 4)))
                for number in range(12):
                    house.put(table, (number % 4, number))
            block = helper.block(house, ("select t.b, s.c from t, s where t.a = s.a", SUMS)[seed % 2])
            drawn = drawnplans.Drawn(random.Random(seed), block, 8)
            for top, _ in drawn.tops:
                cursor = Cursor(house, block, top)
                drained(cursor)
                self.assertLessEqual(cursor.total(), judged_top(block, top)[1])
                exact += cursor.total() == judged_top(block, top)[1]
        self.assertGreater(exact, 20)


class DeedsTest(helper.Case):
    """(G2) What is put, taken, made or told is refused exactly if something is wrong; then nothing has changed."""

    COLUMNS = (("a", "number", False), ("b", "number", True))
    FACTS = (("rows", 5), ("rows", 2), ("key", ("a",)), ("fan", ("b",), 2), ("fan", ("a", "b"), 1), ("dist", "b", 3), ("dist", "a", 2),
             ("lies", ("b",)), ("lies", ("a", "b")), ("key", ("b",)), ("fan", ("b",), 0), ("rows", -1), ("dist", "z", 1), ("lies", ()))

    def let(self, facts):
        """Whether facts are well told, by the words of [22]."""
        return (sum(fact[0] == "rows" for fact in facts) == 1 and sum(fact[0] == "lies" for fact in facts) <= 1
                and not any(fact in self.FACTS[9:] for fact in facts))

    def broken(self, facts, rows):
        """The first fact that rows break, which lie by the facts."""
        for fact in facts:
            if fact[0] == "rows" and len(rows) > fact[1]:
                return fact
            if fact[0] == "dist" and len({row["ab".index(fact[1])] for row in rows}) > fact[2]:
                return fact
            if fact[0] in ("key", "fan"):
                keys = [tuple(row["ab".index(name)] for name in fact[1]) for row in rows]
                if any(keys.count(key) > (fact[2] if fact[0] == "fan" else 1) for key in keys):
                    return fact
        return None

    def lying(self, facts, rows):
        for fact in facts:
            if fact[0] == "lies":
                return sorted(rows, key=lambda row: [(row["ab".index(name)] is not None, row["ab".index(name)] or 0) for name in fact[1]])
        return rows

    def test_deeds(self):
        chance = random.Random(1108)
        many = {}
        for _ in range(60):
            house = helper.House()
            facts, rows, edition = (("rows", 4),), [], 1
            house.add_table("t", self.COLUMNS, facts)
            house.add_index("t", "byb", ("b",))
            edition = 2
            for _ in range(25):
                word = chance.choice(("put", "put", "put", "take", "tell"))
                row = (chance.choice((0, 1, 2, 2, None, "x", True, 10 ** 9)) if chance.random() < 0.3 else chance.randrange(3), chance.choice((0, 1, None)))
                is_row = isinstance(row[0], int) and row[0] in (0, 1, 2) and row[0] is not True
                if word == "tell":
                    new = tuple(chance.sample(self.FACTS, chance.randrange(1, 4)))
                    refused = not self.let(new) or self.broken(new, rows) is not None
                    deed = (house.retell, "t", new)
                elif word == "put":
                    refused = not is_row or self.broken(facts, rows + [row]) is not None
                    deed = (house.put, "t", row)
                else:
                    refused = not is_row
                    deed = (house.take, "t", row)
                try:
                    deed[0](*deed[1:])
                    self.assertFalse(refused, (facts, rows, deed[1:]))
                    if word == "tell":
                        facts, edition = new, edition + 1
                        rows = self.lying(facts, rows)
                    elif word == "put":
                        rows = self.lying(facts, rows + [row])
                    elif row in rows:
                        rows.remove(row)
                except errors.HouseError:
                    self.assertTrue(refused, (facts, rows, deed[1:]))
                many[word, refused] = many.get((word, refused), 0) + 1
                self.same((house.rows_of_table("t"), house.facts_of("t"), house.edition("t")), (rows, facts, edition))
                self.same(house.entries_of_index("t", "byb"), tuple(sorted(
                    range(len(rows)), key=lambda at: (rows[at][1] is not None, rows[at][1] or 0, at))))
        for word in ("put", "take", "tell"):
            self.assertGreater(min(many[word, True], many[word, False]), 20)


class ChangedTest(helper.Case):
    """[2] Nothing that is handed in is changed, and what is returned is new."""

    def test_nothing_is_changed(self):
        house = helper.shop(rows=True)
        house.add_index("s", "bya", ("a",))
        block = helper.block(house, SUMS)
        sizes = Ceilings(block)
        top = ("give", ("bag", ("hash", ("scan", 0), ("scan", 1))))
        floors = least(block, ()).floors
        left, right = ((((0,), 0),), (0,)), ((((1,), 0),), (0,))
        rows, ranks = ["b", "a"], [((1, 2),), ((1, 1),)]
        fields = helper.kinds(block)
        before = (house.rows_of_table("t"), house.rows_of_table("s"), house.edition("s"))
        for call, *told in [
            (read_plan, plan_text(top)), (added, "sum", 1, 2), (scaled, "sum", 1, 2), (leaf_row, block, 0, (1, 2)), (rows_of, house, block, top[1]),
            (answer_of, house, block, top), (leaf_ways, sizes, ("walk",)), (over_one, sizes, left, ()), (over_two, sizes, left, right, ()),
            (sorts_over, sizes, left, ()), (gives_over, sizes, ((((0, 1), 1),), ())), (floors_fit, block, floors, ()), (is_floors, floors),
            (floor_of, floors, *left), (give_floor, floors, ()), (step_ceilings, block, top), (sorted_counted, rows, ranks), (explained, block, top),
            (floors_from, Memo(sizes, ()), (), 7), (judged, block, top[1]), (judged_top, block, top), (used, house, read_question(SUMS)),
        ]:
            kept = copy.deepcopy([one for one in told if isinstance(one, (tuple, list, str, int))])
            first = call(*told)
            self.same([one for one in told if isinstance(one, (tuple, list, str, int))], kept)
            wanted = copy.deepcopy(first)
            if isinstance(first, list):
                first.clear()
            self.same(call(*told), wanted)
        self.same(helper.kinds(block), fields)
        self.same((house.rows_of_table("t"), house.rows_of_table("s"), house.edition("s")), before)

    def test_runs_are_new(self):
        house = helper.shop(rows=True)
        block = helper.block(house, SUMS)
        one, other = (open_run(house, block, ("scan", 0)) for _ in range(2))
        self.assertIsNot(one, other)
        one.pull()
        self.same((one.given, other.given), (1, 0))
        told = line_runs(one)
        told.clear()
        self.same(len(line_runs(one)), 1)
        cursor = Cursor(house, block, ("give", ("bag", ("loop", ("scan", 0), ("scan", 1)))))
        lines = cursor.lines()
        cursor.page(1)
        self.same(lines[0][2:], (0, 0))


if __name__ == "__main__":
    unittest.main()
