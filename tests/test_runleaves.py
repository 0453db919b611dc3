"""[79] [81] Runs of leaf steps."""

import unittest

import helper
import slowrows
from leastplans.opening import line_runs, open_run, open_top
from leastplans.runleaves import InnerRun, ScanRun, SeekRun, WalkRun

T = ("scan", 0)


class LeafRunTest(helper.Case):

    def setUp(self):
        self.house = helper.store()
        self.house.add_index("t", "bya", ("a", "b"))
        self.house.add_index("t", "byb", ("b",))

    def rows(self, *values):
        for row in values:
            self.house.put("t", row)

    def pulled(self, text, plan, *wanted, kind=None):
        """The run gives these rows; wanted are its given and spent behind the opening, and behind each pull."""
        block = helper.block(self.house, text)
        run = open_run(self.house, block, plan)
        if kind is not None:
            self.assertIs(type(run), kind)
        told = [(run.given, run.spent)]
        found = []
        while True:
            row = run.pull()
            told.append((run.given, run.spent))
            if row is None:
                break
            found.append(row)
        self.same(found, slowrows.rows(self.house, block, plan))
        self.same(told, list(wanted))
        self.same(told[-1], slowrows.counts(self.house, block, plan)[()] if block.limit is None else told[-1])
        # behind the end nothing counts
        for _ in range(3):
            self.same(run.pull(), None)
            self.same((run.given, run.spent), told[-1])
        return found

    def test_scan(self):
        """1 for each row of the table, also for those that are not taken."""
        self.pulled("select t.a from t", T, (0, 0), (0, 0), kind=ScanRun)
        self.rows((1, 5, ""), (2, 6, ""), (3, 5, ""), (4, 6, ""), (5, None, ""))
        self.pulled("select t.a from t", T, (0, 0), (1, 1), (2, 2), (3, 3), (4, 4), (5, 5), (5, 5))
        self.pulled("select t.a from t where t.b = 6", T, (0, 0), (1, 2), (2, 4), (2, 5))
        self.pulled("select t.a from t where t.b = 7", T, (0, 0), (0, 5))
        self.pulled("select t.a from t where t.a > 4", T, (0, 0), (1, 5), (1, 5))

    def test_walk(self):
        """2 for each entry of the index."""
        self.pulled("select t.a from t", ("walk", 0, "bya"), (0, 0), (0, 0), kind=WalkRun)
        self.rows((4, 5, ""), (2, 6, ""), (3, 5, ""), (1, 6, ""), (5, None, ""))
        self.pulled("select t.a from t", ("walk", 0, "bya"), (0, 0), (1, 2), (2, 4), (3, 6), (4, 8), (5, 10), (5, 10))
        self.pulled("select t.a from t where t.b = 6", ("walk", 0, "bya"), (0, 0), (1, 2), (2, 4), (2, 10))
        self.pulled("select t.a from t where t.b = 5", ("walk", 0, "byb"), (0, 0), (1, 4), (2, 6), (2, 10))
        self.pulled("select t.a from t where t.b = 9", ("walk", 0, "byb"), (0, 0), (0, 10))

    def test_seek(self):
        """The document's example: 3 looks, 4 and 1; 2 looks and 1; 2 looks and 2; 2 looks."""
        self.rows((1, 0, ""), (2, 1, ""), (2, 0, ""), (4, 0, ""))
        for number, spent, many in ((2, 8, 2), (3, 3, 0), (4, 4, 1), (5, 2, 0), (1, 3 + 2 + 1, 1), (0, 3 + 1, 0)):
            found = self.pulled_to_end(f"select t.b from t where t.a = {number}", ("seek", 0, "bya", 1))
            self.same(found, (many, spent))
        # two columns: entries (1 0) (2 0) (2 1) (4 0)
        self.same(self.pulled_to_end("select t.x from t where t.a = 2 and t.b = 0", ("seek", 0, "bya", 2)), (1, 3 + 2 + 1))
        self.same(self.pulled_to_end("select t.x from t where t.a = 4 and t.b = 0", ("seek", 0, "bya", 2)), (1, 2 + 2))
        self.same(self.pulled_to_end("select t.x from t where t.a = 2 and t.b = 9", ("seek", 0, "bya", 2)), (0, 2 + 1))
        # entries that are read but whose rows are not taken count, too
        self.same(self.pulled_to_end("select t.x from t where t.a = 2 and t.b = 1", ("seek", 0, "bya", 1)), (1, 8))
        self.same(self.pulled_to_end("select t.x from t where t.a = 2 and t.b = 9", ("seek", 0, "bya", 1)), (0, 8))
        self.same(self.pulled_to_end("select t.x from t where t.a = 4 and t.b = 9", ("seek", 0, "bya", 1)), (0, 4))

    def pulled_to_end(self, text, plan):
        block = helper.block(self.house, text)
        run = open_run(self.house, block, plan)
        self.assertIs(type(run), SeekRun)
        self.same((run.given, run.spent), (0, 0))
        rows = []
        while (row := run.pull()) is not None:
            rows.append(row)
            self.same(run.given, len(rows))
        self.same(rows, slowrows.rows(self.house, block, plan))
        self.same((run.pull(), run.pull()), (None, None))
        self.same((run.given, run.spent), slowrows.counts(self.house, block, plan)[()])
        return (run.given, run.spent)

    def test_seek_empty(self):
        self.same(self.pulled_to_end("select t.x from t where t.a = 2", ("seek", 0, "bya", 1)), (0, 0))

    def test_seek_bound(self):
        """Of an attachment the told values are the bound ones."""
        self.rows((1, 0, ""), (2, 1, ""), (2, 0, ""), (4, 0, ""))
        for word in ("", "not "):
            text = f"select p.k from p where {word}exists (from t where t.a = 2 and t.b = p.k)"
            self.same(self.pulled_to_end(text, ("seek", 1, "bya", 1)), (2, 8))

    def test_inner(self):
        """1 for each row of its top, which counts for itself; a None counts nothing."""
        self.rows((1, 5, ""), (2, 6, ""), (3, 5, ""), (4, 6, ""), (5, None, ""))
        text = "select u.a from (select t.a, t.b from t limit 9) u where u.b = 5"
        plan = ("inner", 0, ("give", T, "sorted"))
        block = helper.block(self.house, text)
        run = open_run(self.house, block, plan)
        self.assertIs(type(run), InnerRun)
        told = []
        for _ in range(5):
            told.append([(path, one.given, one.spent) for path, one in line_runs(run)])
            run.pull()
        self.same([one[0] for one in told], [((), 0, 0), ((), 1, 1), ((), 2, 3), ((), 2, 5), ((), 2, 5)])
        # five rows that are sorted already: 1 comparison of the first two, 2 of the others, 2 to merge
        self.same([one[1] for one in told], [((0,), 0, 0), ((0,), 1, 10), ((0,), 3, 10), ((0,), 5, 10), ((0,), 5, 10)])
        self.same([one[2] for one in told], [((0, 0), 0, 0)] + [((0, 0), 5, 5)] * 4)
        self.pulled("select u.n from (select t.b, count (*) as n from t group by t.b) u", ("inner", 0, ("give", ("bag", T))),
                    (0, 0), (1, 1), (2, 2), (3, 3), (3, 3))
        # rows of the top that are not taken count, too
        text = "select u.n from (select t.b, count (*) as n from t group by t.b limit 9) u where u.n = 1"
        block = helper.block(self.house, text)
        run = open_run(self.house, block, ("inner", 0, ("give", ("bag", T), "sorted")))
        self.same(run.pull(), ((1,), 1, ()))
        self.same((run.given, run.spent), (1, 1))
        self.same(run.pull(), None)
        self.same((run.given, run.spent), (1, 3))

    def test_inner_bare(self):
        text = "select u.n from (select count (*) as n from t) u"
        self.pulled(text, ("inner", 0, ("give", ("bag", T))), (0, 0), (1, 1), (1, 1))
        self.pulled(text.replace("from t)", "from t having count (*) > 0)"), ("inner", 0, ("give", ("bag", T))), (0, 0), (0, 0))

    def test_top(self):
        """A run of a top that stands by itself has its own runs below it."""
        self.rows((1, 5, ""), (2, 6, ""))
        block = helper.block(self.house, "select t.a from t")
        run = open_top(self.house, block, ("give", T))
        self.same([(path, type(one).__name__) for path, one in line_runs(run)], [((), "GiveRun"), ((0,), "ScanRun")])


if __name__ == "__main__":
    unittest.main()
