"""[47] The meaning of blocks, beside that of questions and beside a slow one. G3 of [11]."""

import random
import unittest

import helper
import slow
from leastplans.blockmeanings import means, means_rows
from leastplans.blocks import block_of
from leastplans.errors import TooMuch
from leastplans.meanings import meaning
from leastplans.ordering import alike_bags
from leastplans.questionreading import read_question

SHOP_CASES = [
    ("select t.a, sum (t.b) as x, count (*) as n from t join s on t.a = s.a group by t.a", [(1, 24, 4)]),
    ("select t.b, s.c from t left join s on t.a = s.a and t.b = 7",
     [(5, None), (7, 0), (7, 0), (None, None)]),
    ("select t.b from t where t.b not in (select s.c from s)", [(5,), (7,)]),
    ("select t.a from t where t.a in (select s.a from s)", [(1,), (1,)]),
    ("select t.a from t where not exists (from s where s.a = t.a)", [(2,)]),
    ("select count (*) as n, sum (t.b) as m, min (t.b) as o, count (t.b) as p from t where t.a = 9",
     [(0, None, None, 0)]),
    ("select count (*) as n from t where t.a = 9 having count (*) > 0", []),
    ("select t.b from t order by b limit 2", [(None,), (5,)]),
    ("select t.b from t order by b desc limit 2", [(7,), (5,)]),
    ("select t.b from t limit 0", []),
    ("select u.b from (select t.b from t order by b desc limit 1) u, s", [(7,), (7,), (7,)]),
    ("select distinct t.a, 1 as d from t", [(1, 1), (2, 1)]),
    ("select t.a, max (t.b) as m from t left join s on s.a = t.b group by t.a having max (s.c) is null",
     [(1, 7), (2, None)]),
    ("select t.b from t where 1 = 2", []),
    ("select t.b, s.a as d from t left join s on 1 = 2 where t.b = 5", [(5, None)]),
    ("select count (s.a) as n, count (*) as m from t left join s on s.a = t.b", [(0, 3)]),
    ("select t.a, s.a as d from t left join (select s.a from s where s.a > 1) s on s.a > t.a",
     [(1, 3), (1, 3), (2, 3)]),
]


def slow_rows(house, block):
    """means_rows by the words of [7] alone."""
    every = list(range(len(block.units)))
    found = []
    for places, worth in slow.assignments(house, block, every):
        told = tuple([places.get(u, 0) for u in every])
        found.append((told, tuple([worth[mark] for mark in sorted(worth)])))
    return found


class MeansTest(helper.Case):

    def test_shop(self):
        house = helper.shop(rows=True)
        for text, wanted in SHOP_CASES:
            with self.subTest(text=text):
                found = means(house=house, block=helper.block(house, text))
                self.same(meaning(house, read_question(text)), wanted)
                self.same(found, wanted)

    def test_not_in(self):
        text = "select t.b from t where t.b not in (select s.c from s)"
        house = helper.shop()
        for row in ((1, 5), (1, 7), (2, None)):
            house.put("t", row)
        block = helper.block(house, text)
        self.same(means(house, block), [(5,), (7,), (None,)])
        house.put("s", (1, 5))
        self.same(means(house, block), [(7,)])
        house.put("s", (1, None))
        self.same(means(house, block), [])

    def test_rows(self):
        house = helper.shop(rows=True)
        block = helper.block(
            house, "select t.b, s.c, r.a from t left join s on s.a = t.a and s.c = 0, s r "
                   "where exists (from s where s.a = 3) and r.a < 2")
        # marks: t.a 0, t.b 1, s.a 2, s.c 3, r.a 4, and one of the exists
        self.same(means_rows(house=house, block=block), [
            ((0, 0, 0, 0), (1, 5, 1, 0, 1)), ((0, 1, 0, 0), (1, 5, 1, 0, 1)),
            ((0, 0, 1, 0), (1, 5, 1, 0, 1)), ((0, 1, 1, 0), (1, 5, 1, 0, 1)),
            ((1, 0, 0, 0), (1, 7, 1, 0, 1)), ((1, 1, 0, 0), (1, 7, 1, 0, 1)),
            ((1, 0, 1, 0), (1, 7, 1, 0, 1)), ((1, 1, 1, 0), (1, 7, 1, 0, 1)),
            ((2, None, 0, 0), (2, None, None, None, 1)), ((2, None, 1, 0), (2, None, None, None, 1)),
        ])
        self.same(means_rows(house, helper.block(house, "select count (*) as n from t where t.a = 9")), [])
        self.same(means_rows(house, helper.block(house, "select 1 as n from t")),
                  [((0,), ()), ((1,), ()), ((2,), ())])

    def test_rows_beside_slow_ones(self):
        chance = random.Random(471)
        many = 0
        for question in helper.join_questions(472, 250):
            house = helper.store()
            helper.fill(house, chance, 3)
            try:
                blocks = [block_of(house, question)]
            except TooMuch:
                continue
            while blocks:
                block = blocks.pop()
                blocks.extend([unit.source for unit in block.units if not isinstance(unit.source, str)])
                found = means_rows(house, block)
                many += found != []
                self.same(found, slow_rows(house, block))
        self.assertGreater(many, 100)

    def beside_meaning(self, question, chance, sizes):
        """The block is made without rows; its meaning is that of the question over any rows."""
        try:
            block = block_of(helper.store(), question)
        except TooMuch:
            return (0, 0)
        rows = 0
        for size in sizes:
            house = helper.store()
            helper.fill(house, chance, size)
            found = means(house, block)
            wanted = meaning(house, question)
            rows += len(wanted)
            if block.listed:
                self.same(found, wanted)
            else:
                self.assertTrue(alike_bags(found, wanted))
        return (1, rows)

    def test_beside_meaning(self):
        chance = random.Random(473)
        blocks = rows = 0
        for number, question in enumerate(helper.chance_questions(474, 500) + helper.join_questions(475, 700)):
            with self.subTest(number=number):
                one, more = self.beside_meaning(question, chance, (3, 5, 7))
                blocks += one
                rows += more
        self.assertGreater(blocks, 1000)
        self.assertGreater(rows, 3000)

    def test_broken_facts(self):
        """Facts play no part in what a block means."""
        text = "select t.a, s.c from t left join s on s.a = t.a where t.b in (select t.a from t)"
        house = helper.shop(rows=True)
        tight = helper.shop()
        for table in "ts":
            tight.retell(table, (("rows", 1), ("key", ("a",)), ("dist", "a", 1)))
        self.assertTrue(alike_bags(means(house, helper.block(tight, text)), meaning(house, read_question(text))))

    def test_many_rows(self):
        house = helper.shop()
        for at in range(200):
            house.put("t", (at - at // 10 * 10, at))
            house.put("s", (at - at // 10 * 10, at))
        text = "select sum (t.b) as m, count (*) as n from t, s, t u where t.a = s.a and u.b = s.c"
        self.same(means(house, helper.block(house, text)), meaning_of_sums())


def meaning_of_sums():
    return [(sum(at * 20 for at in range(200)), 4000)]


if __name__ == "__main__":
    unittest.main()
