"""[87] Cursors."""

import random
import unittest

import drawnplans
import helper
import slowrows
from leastplans.cursors import Cursor, drained
from leastplans.errors import BadPage
from leastplans.judging import judged_top
from leastplans.listings import answer_of
from leastplans.planshapes import nodes_of
from leastplans.plantexts import plan_text
from leastplans.stepceilings import step_ceilings
from test_runjoins import has_no_limit

SUMS = "select t.a, sum (t.b) as x, count (*) as n from t join s on t.a = s.a group by t.a"
T, S = ("scan", 0), ("scan", 1)


def five():
    """A house whose t has five rows."""
    house = helper.shop()
    for number in range(5):
        house.put("t", (number, 10 * number))
    return house


class PageTest(helper.Case):

    def cursor(self, text="select t.a from t", top=("give", T), house=None):
        house = house or five()
        return Cursor(house=house, block=helper.block(house, text), top=top)

    def test_document(self):
        house = helper.shop(rows=True)
        cursor = self.cursor(SUMS, ("give", ("bag", ("hash", T, S))), house)
        self.same((cursor.page(5), cursor.done(), cursor.total()), ([(1, 24, 4)], True, 28))
        self.same(cursor.lines(), (((), "give", 1, 1), ((0,), "bag", 1, 8), ((0, 0), "hash", 4, 13), ((0, 0, 0), "scan 0", 3, 3),
                                   ((0, 0, 1), "scan 1", 3, 3)))

    def test_pages(self):
        cursor = self.cursor()
        self.same((cursor.done(), cursor.total(), cursor.lines()), (False, 0, (((), "give", 0, 0), ((0,), "scan 0", 0, 0))))
        self.same((cursor.page(size=2), cursor.done(), cursor.total()), ([(0,), (1,)], False, 4))
        self.same((cursor.page(3), cursor.done(), cursor.total()), ([(2,), (3,), (4,)], False, 10))
        self.same((cursor.page(1), cursor.done(), cursor.total()), ([], True, 10))
        for size in (1, 7, 10000):
            self.same((cursor.page(size), cursor.done(), cursor.total()), ([], True, 10))
        cursor = self.cursor()
        self.same((cursor.page(10000), cursor.done()), ([(0,), (1,), (2,), (3,), (4,)], True))
        cursor = self.cursor()
        self.same((cursor.page(5), cursor.done(), cursor.page(5), cursor.done()), ([(0,), (1,), (2,), (3,), (4,)], False, [], True))
        cursor = self.cursor(house=helper.shop())
        self.same((cursor.done(), cursor.page(1), cursor.done(), cursor.total()), (False, [], True, 0))

    def test_new_lists(self):
        cursor = self.cursor()
        one = cursor.page(2)
        one.append(7)
        self.same(cursor.page(2), [(2,), (3,)])

    def test_bad_pages(self):
        """A size of any odd kind is refused, which changes nothing."""
        cursor = self.cursor()
        for _ in range(3):
            before = (cursor.done(), cursor.total(), cursor.lines())
            for size in (0, -1, 10001, 10 ** 59, -10 ** 59, True, False, None, "", "1", "10", (), (1,), [], [1], ((1,), 2)):
                self.refused(BadPage(size), cursor.page, size)
                self.refused(BadPage(size), cursor.page, size=size)
                self.same((cursor.done(), cursor.total(), cursor.lines()), before)
            cursor.page(1)
        self.same(drained(cursor), [(3,), (4,)])
        self.refused(BadPage(0), cursor.page, 0)
        self.same(cursor.done(), True)

    def test_drained(self):
        cursor = self.cursor()
        self.same(drained(cursor=cursor), [(0,), (1,), (2,), (3,), (4,)])
        self.same((cursor.done(), drained(cursor)), (True, []))
        cursor = self.cursor()
        cursor.page(3)
        rows = drained(cursor)
        self.same(rows, [(3,), (4,)])
        rows.append(1)
        self.same(drained(cursor), [])
        cursor = self.cursor("select t.a from t limit 2", ("give", T, "sorted"))
        self.same(drained(cursor), [(0,), (1,)])
        self.same(drained(self.cursor("select t.a from t limit 0", ("give", T, "sorted"))), [])

    def test_limit(self):
        cursor = self.cursor("select t.a from t limit 3", ("give", T, "sorted"))
        self.same((cursor.page(3), cursor.done(), cursor.total()), ([(0,), (1,), (2,)], False, 5 + 5 + 5))
        self.same((cursor.page(1), cursor.done(), cursor.total()), ([], True, 5 + 5 + 5))

    def test_many_rows(self):
        """More rows than one page may have."""
        house = helper.shop()
        for number in range(120):
            house.put("t", (1, number))
            house.put("s", (1, number))
        text = "select t.b, s.c from t, s where t.a = s.a"
        cursor = self.cursor(text, ("give", ("hash", T, S)), house)
        self.same((len(cursor.page(10000)), cursor.done(), cursor.lines()[0]), (10000, False, ((), "give", 10000, 10000)))
        self.same((len(cursor.page(10000)), cursor.done(), cursor.lines()[0]), (4400, True, ((), "give", 14400, 14400)))
        self.same(len(drained(self.cursor(text, ("give", ("loop", T, S)), house))), 14400)

    def test_by_turns(self):
        """Two cursors do not affect one another; what is put and taken behind the opening changes nothing."""
        house = five()
        block = helper.block(house, "select t.a from t")
        one, other = Cursor(house, block, ("give", T)), Cursor(house, block, ("give", T))
        self.same(one.page(2), [(0,), (1,)])
        house.put("t", (7, 7))
        self.same((other.page(3), one.total(), other.total()), ([(0,), (1,), (2,)], 4, 6))
        house.take("t", (3, 30))
        third = Cursor(house, block, ("give", T))
        self.same((one.page(9), other.page(9), third.page(9)), ([(2,), (3,), (4,)], [(3,), (4,)], [(0,), (1,), (2,), (4,), (7,)]))
        self.same((one.total(), other.total(), third.total()), (10, 10, 10))


class ChanceTest(helper.Case):

    def pages(self, chance, house, block, top, most):
        """Pulls pages of sizes by chance, and looks at each line behind each of them."""
        ceilings = {path: (rows, steps) for path, _, rows, steps, _ in step_ceilings(block, top)}
        cursor = Cursor(house, block, top)
        wanted = answer_of(house, block, top)
        found = []
        words = [line.lstrip() for line in plan_text(top).split("\n")]
        while not cursor.done():
            size = chance.randrange(1, most + 1)
            rows = cursor.page(size)
            found += rows
            self.same(cursor.done(), len(rows) < size)
            told = cursor.lines()
            self.same([path for path, *_ in told], [path for path, _ in nodes_of(top)])
            self.same([word for _, word, *_ in told], words)
            self.same(told[0][2], len(found))
            self.same(cursor.total(), sum(spent for *_, spent in told))
            for path, _, given, spent in told:
                self.assertLessEqual(given, ceilings[path][0])
                self.assertLessEqual(spent, ceilings[path][1])
        self.same(found, wanted)
        self.assertLessEqual(cursor.total(), judged_top(block, top)[1])
        if has_no_limit(block):
            counts = slowrows.counts(house, block, top)
            self.assertEqual({path: (given, spent) for path, _, given, spent in cursor.lines()}, counts)
        return cursor.lines()

    def test_pages(self):
        """Pages of any sizes are the list; what is counted does not depend on them."""
        for chance, house, block in drawnplans.told_houses(870, 1, (0, 5, 12)):
            for top, _ in drawnplans.Drawn(chance, block, 20).tops[-5:]:
                one, other = (self.pages(chance, house, block, top, most) for most in (2, 30))
                self.same(one, other)

    def test_counted_by_rows(self):
        """What a line has counted depends on how many rows have been pulled and whether the end was found."""
        for chance, house, block in drawnplans.told_houses(871, 1, (5,)):
            for top, _ in drawnplans.Drawn(chance, block, 15).tops[-3:]:
                many = len(answer_of(house, block, top))
                by_ones = Cursor(house, block, top)
                for pulled in range(1, many + 2):
                    by_ones.page(1)
                    at_once = Cursor(house, block, top)
                    at_once.page(pulled)
                    self.same(at_once.lines(), by_ones.lines())

    def test_any_questions(self):
        chance = random.Random(872)
        for house, block in helper.chance_blocks(873, 50):
            helper.put_let(house, chance, chance.choice((0, 3, 6)))
            for top, _ in drawnplans.Drawn(chance, block, 10).tops[-3:]:
                self.pages(chance, house, block, top, 4)


if __name__ == "__main__":
    unittest.main()
