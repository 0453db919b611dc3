"""[79] [84] [85] Runs of squeezes, sorts and gives."""

import unittest

import drawnplans
import helper
import slowrows
from leastplans.blockmeanings import means
from leastplans.opening import line_runs, open_run, open_top
from leastplans.rungives import GiveRun
from leastplans.runsorts import SortRun
from leastplans.runsqueezes import BagRun, StreamRun
from test_runjoins import RunCase, has_no_limit

T, S = ("scan", 0), ("scan", 1)
WALK = ("walk", 0, "bya")


class SqueezeRunTest(RunCase):

    TEXT = "select t.a, count (*) as n, sum (t.b) as x from t group by t.a"

    def test_bag(self):
        """The child is pulled to the end at the first pull: 2 for each row."""
        self.same(self.moments(self.TEXT, ("bag", T), BagRun), [((0, 0), (0, 0))])
        self.put(t=[(2, 1, ""), (1, None, ""), (2, 5, ""), (3, 1, ""), (1, 1, "")])
        self.same(self.moments(self.TEXT, ("bag", T), BagRun), [((1, 10), (5, 5)), ((2, 10), (5, 5)), ((3, 10), (5, 5)), ((3, 10), (5, 5))])

    def test_stream(self):
        """Row by row, until a row of the next part comes."""
        self.same(self.moments(self.TEXT, ("stream", WALK), StreamRun), [((0, 0), (0, 0))])
        self.put(t=[(2, 1, ""), (1, None, ""), (2, 5, ""), (3, 1, ""), (1, 1, "")])
        self.same(self.moments(self.TEXT, ("stream", WALK), StreamRun), [
            ((1, 3), (3, 6)), ((2, 5), (5, 10)), ((3, 5), (5, 10)), ((3, 5), (5, 10))])

    def test_stream_alone(self):
        """Nothing kept: all rows are one part."""
        text = "select count (*) as n, min (t.b) as m from t where t.a < 9"
        self.same(self.moments(text, ("stream", T), StreamRun), [((0, 0), (0, 0))])
        self.put(t=[(2, 1, ""), (1, None, ""), (9, 5, "")])
        self.same(self.moments(text, ("stream", T), StreamRun), [((1, 2), (2, 3)), ((1, 2), (2, 3))])

    def test_nulls(self):
        """Nulls are alike, and stand ahead of all other values."""
        text = "select t.b, count (*) as n from t group by t.b"
        self.put(t=[(2, 1, ""), (1, None, ""), (2, None, ""), (3, 0, "")])
        self.same(self.moments(text, ("stream", ("walk", 0, "byb")), StreamRun)[:2], [((1, 3), (3, 6)), ((2, 4), (4, 8))])
        self.same(self.moments(text, ("bag", T), BagRun)[0], ((1, 8), (4, 4)))

    def test_limit(self):
        """A limit above a stream: no more is pulled than the parts that are asked for, and a row of the next."""
        self.put(t=[(1, 1, ""), (1, 2, ""), (2, 3, ""), (2, 3, ""), (3, 3, ""), (4, 1, "")])
        for limit, wanted in [(0, [(0, 0)] * 3), (1, [(1, 1), (1, 3), (3, 6)]), (2, [(2, 2), (2, 5), (5, 10)]), (3, [(3, 3), (3, 6), (6, 12)])]:
            block = helper.block(self.house, f"select t.a from t group by t.a limit {limit}")
            run = open_top(self.house, block, ("give", ("stream", WALK)))
            while run.pull() is not None:
                pass
            self.same([(one.given, one.spent) for _, one in line_runs(run)], wanted)


class SortRunTest(RunCase):

    def test_whole(self):
        """a, and the comparisons of sorted_counted, at the first pull."""
        text = "select t.a, t.b, t.x from t order by a"
        plan = ("sort", T, (0, 1, 2))
        self.same(self.moments(text, plan, SortRun), [((0, 0), (0, 0))])
        self.put(t=[(3, 0, "")])
        self.same(self.moments(text, plan, SortRun), [((1, 1), (1, 1)), ((1, 1), (1, 1))])
        self.put(t=[(1, 0, ""), (2, 0, "")])
        # 3, then 1 2: 1 comparison within, 2 to merge
        self.same(self.moments(text, plan, SortRun), [((many, 3 + 3), (3, 3)) for many in (1, 2, 3, 3)])

    def test_stretches(self):
        """Each stretch that is alike in the marks with which the child's order and w begin alike."""
        text = "select t.a, t.b, t.x from t order by a, b"
        self.put(t=[(1, 9, ""), (2, 3, ""), (1, 8, ""), (2, 2, ""), (2, 1, ""), (3, 0, "")])
        # by a the rows stand as 9 8 | 3 2 1 | 0: 1 comparison; 1 and 2; none
        self.same(self.moments(text, ("sort", WALK, (0, 1, 2)), SortRun)[0], ((1, 6 + 1 + 3), (6, 12)))
        self.house.drop_index("t", "bya")
        self.house.add_index("t", "bya", ("a", "b"))
        self.same(self.moments(text, ("sort", WALK, (0, 1, 2)), SortRun)[0], ((1, 6), (6, 12)))
        self.house.drop_index("t", "bya")
        self.house.add_index("t", "bya", ("a", "x"))
        # alike in a alone, though the child's order has more marks
        self.same(self.moments(text, ("sort", WALK, (0, 1, 2)), SortRun)[0], ((1, 6 + 1 + 3), (6, 12)))

    def test_by_several(self):
        """Rows alike in w keep their sequence."""
        text = "select t.x, count (*) as n from t, s where t.b = s.c group by t.x"
        self.put(t=[(1, 2, "a"), (2, 1, "a"), (3, 2, "b"), (4, None, "c"), (5, 1, "")])
        block = helper.block(self.house, text)
        run = open_run(self.house, block, ("sort", T, (0,)))
        self.same([run.pull()[0] for _ in range(5)], [(None, "c"), (1, "a"), (1, ""), (2, "a"), (2, "b")])
        self.same((run.spent, run.pull()), (5 + slowrows.merge_count([2, 1, 2, 0, 1])[1], None))


class GiveRunTest(RunCase):

    def give(self, text, top, rows, *wanted):
        """The run gives these rows; wanted are given and spent of it and of its plan, behind each pull."""
        block = helper.block(self.house, text)
        run = open_top(self.house, block, top)
        self.assertIs(type(run), GiveRun)
        self.same([(one.given, one.spent) for _, one in line_runs(run)], [(0, 0)] * len(line_runs(run)))
        found, told = [], []
        while True:
            row = run.pull()
            told.append((run.given, run.spent, run.children[0].given))
            if row is None:
                break
            found.append(row)
        self.same(found, rows)
        self.same(told, list(wanted))
        self.same(found, slowrows.answer(self.house, block, top))
        for _ in range(3):
            self.same(run.pull(), None)
            self.same((run.given, run.spent, run.children[0].given), told[-1])

    def test_give(self):
        """Row by row; outputs."""
        self.give("select t.a from t", ("give", T), [], (0, 0, 0))
        self.put(t=[(2, 1, ""), (1, None, "p"), (2, 5, "")])
        self.give("select t.a + t.b as d, 7 as e, t.x from t", ("give", T), [(3, 7, ""), (None, 7, "p"), (7, 7, "")],
                  (1, 1, 1), (2, 2, 2), (3, 3, 3), (3, 3, 3))

    def test_having(self):
        self.put(t=[(1, 1, ""), (2, 1, ""), (2, 5, ""), (3, 0, ""), (4, 1, ""), (4, 1, "")])
        text = "select t.a from t group by t.a having count (*) > 1"
        self.give(text, ("give", ("stream", WALK)), [(2,), (4,)], (1, 2, 2), (2, 4, 4), (2, 4, 4))
        self.give(text.replace("> 1", "> 2"), ("give", ("bag", T)), [], (0, 4, 4))

    def test_bare(self):
        """A row that no row gives counts nothing."""
        text = "select count (*) as n, max (t.b) as m from t"
        self.give(text, ("give", ("bag", T)), [(0, None)], (1, 0, 0), (1, 0, 0))
        self.give(text + " having count (*) > 0", ("give", ("bag", T)), [], (0, 0, 0))
        self.give(text + " order by n", ("give", ("bag", T), "sorted"), [(0, None)], (1, 0, 0), (1, 0, 0))
        self.put(t=[(1, 1, ""), (2, 3, "")])
        self.give(text, ("give", ("bag", T)), [(2, 3)], (1, 1, 1), (1, 1, 1))
        self.give(text + " having count (*) > 2", ("give", ("bag", T)), [], (0, 1, 1))
        self.give(text + " order by n", ("give", ("bag", T), "sorted"), [(2, 3)], (1, 1, 1), (1, 1, 1))
        self.give(text + " limit 1", ("give", ("bag", T)), [(2, 3)], (1, 1, 1), (1, 1, 1))

    def test_sorted(self):
        """The child to the end at the first pull; comparisons by the whole wanted order."""
        text = "select t.b, t.x from t order by b desc"
        self.give(text, ("give", T, "sorted"), [], (0, 0, 0))
        self.put(t=[(1, 1, "b"), (2, None, "a"), (3, 1, "a"), (4, 2, ""), (5, 1, "b")])
        # 1b null | 1a 2 1b: 1 comparison; 2 1b: 1, then 1a with 2 and 1b: 2; 1b with 2 and 1a, then with 1b, and null with 1b: 4
        self.give(text, ("give", T, "sorted"), [(2, ""), (1, "a"), (1, "b"), (1, "b"), (None, "a")],
                  *[(many, 5 + 1 + 3 + 4, 5) for many in (1, 2, 3, 4, 5, 5)])

    def test_sorted_down(self):
        """Texts and nulls go down, too."""
        self.put(t=[(1, 1, "b"), (2, 2, None), (3, 3, "ab"), (4, 4, ""), (5, 5, "b")])
        block = helper.block(self.house, "select t.x, t.a from t order by x desc, a desc")
        run = open_top(self.house, block, ("give", T, "sorted"))
        self.same([run.pull() for _ in range(6)], [("b", 5), ("b", 1), ("ab", 3), ("", 4), (None, 2), None])

    def test_matched(self):
        """Over each stretch of adjacent rows alike in matched."""
        self.put(t=[(1, 9, ""), (2, 3, ""), (1, 8, ""), (2, 2, ""), (2, 1, ""), (3, 0, "")])
        text = "select t.a, t.b from t order by a, b desc"
        # by a the rows stand as 9 8 | 3 2 1 | 0, and go down already
        self.give(text, ("give", WALK, "sorted"), [(1, 9), (1, 8), (2, 3), (2, 2), (2, 1), (3, 0)],
                  *[(many, 6 + 1 + 2, 6) for many in (1, 2, 3, 4, 5, 6, 6)])
        text = "select t.a, t.b + 0 as d from t order by a, d"
        self.give(text, ("give", WALK, "sorted"), [(1, 8), (1, 9), (2, 1), (2, 2), (2, 3), (3, 0)],
                  *[(many, 6 + 1 + 3, 6) for many in (1, 2, 3, 4, 5, 6, 6)])
        # nothing is matched
        self.give(text.replace("by a, d", "by d"), ("give", WALK, "sorted"), [(3, 0), (2, 1), (2, 2), (2, 3), (1, 8), (1, 9)],
                  *[(many, 6 + slowrows.merge_count([9, 8, 3, 2, 1, 0])[1], 6) for many in (1, 2, 3, 4, 5, 6, 6)])

    def test_sorted_having(self):
        """Rows for which having is not true are left out before they are compared."""
        self.put(t=[(4, 1, ""), (4, 1, ""), (3, 0, ""), (2, 5, ""), (2, 1, ""), (1, 0, ""), (5, 1, ""), (5, 1, "")])
        text = "select t.a, count (*) as n from t group by t.a having count (*) > 1 order by n, a desc"
        # 4 2 5 are left: 4 | 2 5, that go down: 1, then 5 goes ahead of 4, and 4 ahead of 2
        self.give(text, ("give", ("bag", T), "sorted"), [(5, 2), (4, 2), (2, 2)], *[(many, 5 + 1 + 2, 5) for many in (1, 2, 3, 3)])

    def test_limit(self):
        """Nothing more is pulled once so many rows have been returned; with limit 0 nothing ever is."""
        self.put(t=[(1, 9, ""), (2, 3, ""), (3, 8, ""), (4, 2, "")])
        rows = [(1,), (2,), (3,), (4,)]
        for limit in range(7):
            many = [(one, one, one) for one in range(1, min(limit, 4) + 1)]
            end = (min(limit, 4), min(limit, 4), min(limit, 4))
            self.give(f"select t.a from t limit {limit}", ("give", WALK), rows[:limit], *many + [end])
            end = (min(limit, 4), 4 + 4 if limit else 0, 4 if limit else 0)
            self.give(f"select t.a from t limit {limit}", ("give", T, "sorted"), rows[:limit],
                      *[(one, 8, 4) for one in range(1, min(limit, 4) + 1)] + [end])
        # having ahead of the limit
        self.put(t=[(2, 0, ""), (4, 0, "")])
        text = "select t.a from t group by t.a having count (*) > 1 limit 1"
        self.give(text, ("give", ("stream", WALK)), [(2,)], (1, 2, 2), (1, 2, 2))

    def test_inner_top(self):
        """A limit within ends what stands below it, whatever stands above."""
        self.put(t=[(1, 9, ""), (2, 3, ""), (3, 8, ""), (4, 2, "")])
        block = helper.block(self.house, "select u.a from (select t.a from t limit 2) u")
        run = open_top(self.house, block, ("give", ("inner", 0, ("give", WALK))))
        while run.pull() is not None:
            pass
        self.same([(path, one.given, one.spent) for path, one in line_runs(run)], [
            ((), 2, 2), ((0,), 2, 2), ((0, 0), 2, 2), ((0, 0, 0), 2, 4)])

    def test_beside_slow_ones(self):
        many = 0
        for chance, house, block in drawnplans.told_houses(850, 2, (0, 4, 10)):
            for top, _ in drawnplans.Drawn(chance, block, 25).tops[-6:]:
                run = open_top(house, block, top)
                found = []
                while (row := run.pull()) is not None:
                    found.append(row)
                self.same(found, slowrows.answer(house, block, top))
                if block.listed:
                    self.same(found, means(house, block))
                if has_no_limit(block):
                    wanted = slowrows.counts(house, block, top)
                    self.assertEqual({path: (one.given, one.spent) for path, one in line_runs(run)}, wanted)
                    many += len(top) == 3
        self.assertGreater(many, 20)


if __name__ == "__main__":
    unittest.main()
