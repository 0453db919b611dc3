"""[66] [67] The rows of plans, and answers."""

import random
import unittest

import drawnplans
import helper
import slowrows
from leastplans.blockmeanings import means
from leastplans.judging import judged, judged_top
from leastplans.listings import answer_of, rows_of
from leastplans.meanings import meaning
from leastplans.ordering import alike_bags
from leastplans.ranks import rank
from leastplans.states import seen

SUMS = "select t.a, sum (t.b) as x, count (*) as n from t join s on t.a = s.a group by t.a"
T, S = ("scan", 0), ("scan", 1)


def plain(*values):
    """Weighted rows of weight 1 without folds."""
    return [(one, 1, ()) for one in values]


class StepsTest(helper.Case):
    """Each step by itself, over rows that are told."""

    def setUp(self):
        self.house = helper.store()
        for row in ((3, 1, "b"), (1, None, "a"), (2, 1, "c"), (1, 2, None), (3, 1, "a")):
            self.house.put("t", row)
        for row in ((1, 5, "q"), (None, 6, "p"), (3, None, "p"), (1, 5, "q"), (3, 7, "z")):
            self.house.put("s", row)
        for table, ixname, cols in (("t", "bybx", ("b", "x")), ("s", "bya", ("a", "c")), ("s", "byc", ("c",)), ("t", "bya", ("a",))):
            self.house.add_index(table, ixname, cols)

    def check(self, text, *cases):
        block = helper.block(self.house, text)
        for plan, wanted in cases:
            with self.subTest(text=text, plan=plan):
                self.same(rows_of(house=self.house, block=block, plan=plan), wanted)
                self.same(slowrows.rows(self.house, block, plan), wanted)
                judged(block, plan)

    def answers(self, text, *cases):
        block = helper.block(self.house, text)
        for top, wanted in cases:
            with self.subTest(text=text, top=top):
                self.same(answer_of(house=self.house, block=block, top=top), wanted)
                self.same(slowrows.answer(self.house, block, top), wanted)
                judged_top(block, top)

    def test_leaves(self):
        self.check(
            "select t.a, t.x from t where t.b = 1",
            (T, plain((3, 1, "b"), (2, 1, "c"), (3, 1, "a"))),
            (("walk", 0, "bya"), plain((2, 1, "c"), (3, 1, "b"), (3, 1, "a"))),
            (("walk", 0, "bybx"), plain((3, 1, "a"), (3, 1, "b"), (2, 1, "c"))),
            (("seek", 0, "bybx", 1), plain((3, 1, "a"), (3, 1, "b"), (2, 1, "c"))))
        self.check("select t.a from t where t.b = 1 and t.x = 'a'", (("seek", 0, "bybx", 2), plain((3, 1, "a"))), (("seek", 0, "bybx", 1), plain((3, 1, "a"))))
        self.check("select t.a from t where t.b = 3", (("seek", 0, "bybx", 1), []), (T, []))
        self.check("select t.a from t", (T, plain((3,), (1,), (2,), (1,), (3,))), (("walk", 0, "bya"), plain((1,), (1,), (2,), (3,), (3,))))

    def test_sides_of_leaves(self):
        text = "select t.a from t where exists (from s where s.a = t.a and s.c = 5)"
        # s.a 1, s.c 2
        self.check(text, (S, plain((1, 5), (1, 5))), (("walk", 1, "bya"), plain((1, 5), (1, 5))), (("seek", 1, "byc", 1), plain((1, 5), (1, 5))))
        self.check(text.replace("5", "7"), (("seek", 1, "byc", 1), plain((3, 7))), (S, plain((3, 7))))
        self.check("select t.a from t left join s on s.a = t.a and s.c is null", (S, plain((3, None))))

    def test_inner(self):
        text = "select u.n, u.a from (select t.a, count (*) as n, min (t.b) as b from t group by t.a) u where u.b = 1 and u.n > 0"
        self.check(text, (("inner", 0, ("give", ("bag", T))), plain((3, 2, 1), (2, 1, 1))))
        text = "select u.a, u.b from (select t.a, t.b from t order by b desc, a limit 3) u"
        top = ("give", T, "sorted")
        self.check(text, (("inner", 0, top), plain((1, 2), (2, 1), (3, 1))))
        text = "select u.b from (select t.a, t.b from t limit 3) u where u.a = 1"
        self.check(text, (("inner", 0, top), plain((1, None), (1, 2))))
        self.check(text.replace("limit 3", "limit 1"), (("inner", 0, top), plain((1, None))))

    def test_sort(self):
        text = "select t.x, t.b, t.a from t order by x, b"
        # t.a 0, t.b 1, t.x 2; rows alike in w keep their sequence
        self.check(text, (("sort", T, (2, 1, 0)), plain((1, 2, None), (1, None, "a"), (3, 1, "a"), (3, 1, "b"), (2, 1, "c"))))
        text = "select t.x, count (*) as n from t, s where t.b = s.c group by t.x"
        self.check(text, (("sort", T, (0,)), [((None, "a"), 1, (None,)), ((1, "b"), 1, (None,)), ((1, "c"), 1, (None,)),
                                              ((1, "a"), 1, (None,)), ((2, None), 1, (None,))]))
        # walked by x first: now rows alike in b stand in another sequence
        self.house.add_index("t", "byx", ("x",))
        self.check(text, (("sort", ("walk", 0, "byx"), (0,)), [((None, "a"), 1, (None,)), ((1, "a"), 1, (None,)), ((1, "b"), 1, (None,)),
                                                               ((1, "c"), 1, (None,)), ((2, None), 1, (None,))]))

    def test_joins(self):
        text = "select t.x, s.y from t, s where t.a = s.a and t.x <> s.y"
        # t.a, s.a 0; t.x 1; s.y 3
        block = helper.block(self.house, text)
        self.same((seen(block, (((0,), 0),)), seen(block, (((1,), 0),))), ((0, 1), (0, 3)))
        wanted = plain((3, "b", "p"), (3, "b", "z"), (1, "a", "q"), (1, "a", "q"), (3, "a", "p"), (3, "a", "z"))
        by_a = plain((1, "a", "q"), (1, "a", "q"), (3, "b", "p"), (3, "b", "z"), (3, "a", "p"), (3, "a", "z"))
        walk = ("walk", 0, "bya")
        self.check(
            text, (("loop", T, S), wanted), (("hash", T, S), wanted), (("look", T, 1, "bya", 1), wanted), (("loop", walk, S), by_a),
            (("hash", walk, S), by_a), (("merge", walk, ("walk", 1, "bya")), by_a), (("look", walk, 1, "bya", 1), by_a),
            (("hash", S, T), plain((1, "a", "q"), (3, "b", "p"), (3, "a", "p"), (1, "a", "q"), (3, "b", "z"), (3, "a", "z"))))

    def test_nulls_meet_nothing(self):
        text = "select t.a, s.y from t, s where t.b = s.a"
        wanted = plain((3, 1, "q"), (3, 1, "q"), (2, 1, "q"), (2, 1, "q"), (3, 1, "q"), (3, 1, "q"))
        by_b = plain((3, 1, "q"), (3, 1, "q"), (3, 1, "q"), (3, 1, "q"), (2, 1, "q"), (2, 1, "q"))
        self.check(text, (("loop", T, S), wanted), (("hash", T, S), wanted), (("look", T, 1, "bya", 1), wanted),
                   (("merge", ("walk", 0, "bybx"), ("walk", 1, "bya")), by_b))

    def test_left(self):
        text = "select t.a, s.c from t left join s on s.a = t.b and s.c < 7"
        block = helper.block(self.house, text)
        self.same(seen(block, (((0,), 0), ((1,), 0))), (0, 1, 2, 3))
        none = (None, None)
        wanted = plain((3, 1, 1, 5), (3, 1, 1, 5), (1, None) + none, (2, 1, 1, 5), (2, 1, 1, 5), (1, 2) + none, (3, 1, 1, 5), (3, 1, 1, 5))
        by_b = [wanted[at] for at in (2, 6, 7, 0, 1, 3, 4, 5)]
        self.check(text, (("loop", T, S), wanted), (("hash", T, S), wanted), (("look", T, 1, "bya", 1), wanted),
                   (("merge", ("walk", 0, "bybx"), ("walk", 1, "bya")), by_b))
        # new tests: what is not true is left out, and a row that fits does not become one of nulls
        text = "select t.a, s.c from t left join s on s.a = t.a where maybe [s.c > 5]"
        wanted = plain((3, 3, None), (3, 3, 7), (2, None, None), (3, 3, None), (3, 3, 7))
        self.check(text, (("loop", T, S), wanted), (("hash", T, S), wanted), (("look", T, 1, "bya", 1), wanted))

    def test_semi_and_anti(self):
        for word, wanted in (("", plain((3,), (1,), (1,), (3,))), ("not ", plain((2,)))):
            text = f"select t.a from t where {word}exists (from s where s.a = t.a)"
            self.check(text, (("loop", T, S), wanted), (("hash", T, S), wanted), (("look", T, 1, "bya", 1), wanted),
                       (("merge", ("walk", 0, "bya"), ("walk", 1, "bya")), sorted(wanted)))
        text = "select t.x from t where not exists (from s where s.a = t.b)"
        wanted = plain((None, "a"), (2, None))
        self.check(text, (("loop", T, S), wanted), (("hash", T, S), wanted), (("look", T, 1, "bya", 1), wanted),
                   (("merge", ("walk", 0, "bybx"), ("walk", 1, "bya")), wanted))
        # not in: by what may be equal
        text, inner = "select t.b from t where t.b not in (select s.a from s)", ("inner", 1, ("give", T))
        self.check(text, (("loop", T, inner), []))
        self.house.take("s", (None, 6, "p"))
        self.check(text, (("loop", T, inner), plain((2,))))

    def test_look_told(self):
        """Values of a look: fixed, bound, of the left row, of the first pair."""
        self.check("select t.a, s.c from t, s where s.a = t.a and s.c = 5",
                   (("look", T, 1, "bya", 2), plain((1, 5), (1, 5), (1, 5), (1, 5))),
                   (("look", T, 1, "byc", 1), plain((1, 5), (1, 5), (1, 5), (1, 5))))
        text = "select t.a from t left join s on s.a = t.b and s.c = 5 and s.a = t.a"
        wanted = [(3, 1), (1, None), (2, 1), (1, 2), (3, 1)]
        self.check(text, (("look", T, 1, "bya", 2), plain(*[one + (None, None) for one in wanted])))
        self.house.put("t", (1, 1, "d"))
        self.check(text, (("look", T, 1, "bya", 2), plain(*[one + (None, None) for one in wanted] + [(1, 1, 1, 5)] * 2)))
        # a fixed mark that is an attachment's need is no bound one
        text = "select t.x from t where t.a = 1 and exists (from s where s.a = t.a)"
        self.check(text, (("look", T, 1, "bya", 1), plain((1, "a"), (1, None), (1, "d"))))

    def test_squeezes(self):
        text = "select t.a, sum (t.b) as x, count (*) as n, min (t.x) as m, count (t.b) as k from t group by t.a"
        self.check(text, (("bag", T), [((3,), 2, (2, None, "a", 2)), ((1,), 2, (2, None, "a", 1)), ((2,), 1, (1, None, "c", 1))]),
                   (("stream", ("walk", 0, "bya")), [((1,), 2, (2, None, "a", 1)), ((2,), 1, (1, None, "c", 1)), ((3,), 2, (2, None, "a", 2))]))
        # squeezed parts on both sides: weights and folds are scaled
        text = "select t.a, sum (s.c) as x, count (t.b) as k from t, s where t.a = s.a group by t.a"
        both = [((3,), 4, (14, 4)), ((1,), 4, (20, 2))]
        self.check(text, (("hash", ("bag", T), ("bag", S)), both), (("loop", ("bag", T), ("bag", S)), both), (("bag", ("hash", T, S)), both),
                   (("bag", ("loop", ("bag", T), S)), both), (("bag", ("look", ("bag", T), 1, "bya", 1)), both),
                   (("stream", ("merge", ("stream", ("walk", 0, "bya")), ("walk", 1, "bya"))), both[::-1]))
        self.check("select count (*) as n, sum (s.c) as x from s where s.c > 100", (("bag", T), []))

    def test_answers(self):
        text = "select t.a, sum (t.b) as x, count (*) as n from t group by t.a having count (*) > 1"
        self.answers(text, (("give", ("bag", T)), [(3, 2, 2), (1, 2, 2)]))
        text = "select t.a, t.a + t.b as d, t.x from t order by d desc, x limit 4"
        self.answers(text, (("give", T, "sorted"), [(3, 4, "a"), (3, 4, "b"), (1, 3, None), (2, 3, "c")]))
        for limit in range(7):
            self.answers(f"select t.b, t.x from t order by b, x limit {limit}",
                         (("give", ("walk", 0, "bybx")), [(None, "a"), (1, "a"), (1, "b"), (1, "c"), (2, None)][:limit]),
                         (("give", T, "sorted"), [(None, "a"), (1, "a"), (1, "b"), (1, "c"), (2, None)][:limit]))

    def test_bare(self):
        """A bare block has a row without rows; having may leave it out, a limit, too."""
        text = "select count (*) as n, sum (t.b) as x, count (t.b) as k, min (t.x) as m from t"
        self.answers(text, (("give", ("bag", T)), [(5, 5, 4, "a")]), (("give", ("stream", T)), [(5, 5, 4, "a")]))
        self.answers(text + " where t.a > 9", (("give", ("bag", T)), [(0, None, 0, None)]), (("give", ("stream", T)), [(0, None, 0, None)]))
        self.answers(text + " having count (*) > 5", (("give", ("bag", T)), []))
        self.answers(text + " where t.a > 9 having count (*) > 0", (("give", ("bag", T)), []))
        self.answers(text + " where t.a > 9 having sum (t.b) is null limit 1", (("give", ("bag", T)), [(0, None, 0, None)]),
                     (("give", ("bag", T), "sorted"), [(0, None, 0, None)]))
        self.answers(text + " limit 0", (("give", ("bag", T)), []))
        self.answers("select t.a from t where t.a > 9 group by t.a", (("give", ("bag", T)), []))

    def test_nothing_is_changed(self):
        text = "select t.a from t order by a"
        block = helper.block(self.house, text)
        before = self.house.rows_of_table("t")
        for call, thing in ((rows_of, T), (answer_of, ("give", T, "sorted"))):
            one = call(self.house, block, thing)
            one.append(1)
            self.same(len(call(self.house, block, thing)), 5)
        self.same(self.house.rows_of_table("t"), before)


class DocumentTest(helper.Case):

    def test_document(self):
        house = helper.shop(rows=True)
        block = helper.block(house, SUMS)
        self.same(rows_of(house, block, ("hash", ("bag", T), ("bag", S))), [((1,), 4, (24, None))])
        self.same(answer_of(house, block, ("give", ("bag", ("loop", T, S)))), [(1, 24, 4)])
        block = helper.block(house, "select t.b from t where t.b not in (select s.c from s)")
        self.same(answer_of(house, block, ("give", ("loop", T, ("inner", 1, ("give", T))))), [(5,), (7,)])


class ChanceTest(helper.Case):

    def check_plans(self, house, block, drawn):
        bags = {}
        for plan, state, order in drawn.pool:
            listed = rows_of(house, block, plan)
            self.same(listed, slowrows.rows(house, block, plan))
            if state not in bags:
                bags[state] = slowrows.bag(house, block, state)
            self.assertTrue(alike_bags(listed, bags[state]), plan)
            marks = seen(block, state)
            ranks = [[rank(row[0][marks.index(mark)]) for mark in order] for row in listed]
            self.assertEqual(ranks, sorted(ranks))

    def check_tops(self, house, block, drawn):
        wanted = means(house, block)
        for top, outputs in drawn.tops:
            listed = answer_of(house, block, top)
            self.same(listed, slowrows.answer(house, block, top))
            if block.listed:
                self.same(listed, wanted)
            else:
                self.assertTrue(alike_bags(listed, wanted), top)
            ranks = [[rank(row[place]) for place in outputs] for row in listed]
            self.assertEqual(ranks, sorted(ranks))

    def test_told_questions(self):
        """The rows of any plan are the bag of its state by [8], rise by its order, and stand as told."""
        words = {}
        for chance, house, block in drawnplans.told_houses(660, 2, (0, 4, 9, 14)):
            drawn = drawnplans.Drawn(chance, block, 35)
            for plan, _, _ in drawn.pool:
                words[plan[0]] = words.get(plan[0], 0) + 1
            self.check_plans(house, block, drawn)
            self.check_tops(house, block, drawn)
        for word in ("scan", "walk", "seek", "inner", "sort", "loop", "hash", "merge", "look", "bag", "stream"):
            self.assertGreater(words[word], 5, word)

    def test_any_questions(self):
        chance = random.Random(662)
        for house, block in helper.chance_blocks(663, 60):
            helper.put_let(house, chance, chance.choice((0, 2, 5)))
            drawn = drawnplans.Drawn(chance, block, 15)
            self.check_plans(house, block, drawn)
            self.check_tops(house, block, drawn)

    def test_one_list(self):
        """loop, hash and merge of the same two plans have the same list."""
        merged = 0
        for chance, house, block in drawnplans.told_houses(664, 1, (6, 12)):
            drawn = drawnplans.Drawn(chance, block, 40)
            for plan, _, _ in drawn.pool:
                if plan[0] in ("hash", "merge"):
                    merged += plan[0] == "merge"
                    self.same(rows_of(house, block, plan), rows_of(house, block, ("loop",) + plan[1:]))
        self.assertGreater(merged, 5)

    def test_questions(self):
        """For whole questions: the list of meaning, or its bag."""
        chance = random.Random(665)
        for question in helper.chance_questions(666, 80) + helper.join_questions(667, 60):
            house = helper.store()
            helper.tell_facts(house, chance)
            try:
                block = drawnplans.block_of(house, question)
            except drawnplans.TooMuch:
                continue
            helper.put_let(house, chance, 5)
            wanted = meaning(house, question)
            for top, _ in drawnplans.Drawn(chance, block, 8).tops[-3:]:
                found = answer_of(house, block, top)
                if block.listed:
                    self.same(found, wanted)
                else:
                    self.assertTrue(alike_bags(found, wanted))


if __name__ == "__main__":
    unittest.main()
