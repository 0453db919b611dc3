"""[79] [82] [83] Runs of joins and looks."""

import unittest

import drawnplans
import helper
import slowrows
from leastplans.opening import line_runs, open_run, open_top
from leastplans.runjoins import HashRun, LoopRun, MergeRun
from leastplans.runlooks import LookRun

T, S = ("scan", 0), ("scan", 1)
WALKS = (("walk", 0, "bya"), ("walk", 1, "bya"))


class RunCase(helper.Case):

    def setUp(self):
        self.house = helper.store()
        for table, ixname, cols in (("t", "bya", ("a",)), ("t", "byb", ("b",)), ("s", "bya", ("a", "c")), ("s", "byc", ("c",))):
            self.house.add_index(table, ixname, cols)

    def put(self, **tables):
        for table, rows in tables.items():
            for row in rows:
                self.house.put(table, row)

    def moments(self, text, plan, kind):
        """(given, spent) of the run itself and of its children: behind the opening and behind each pull."""
        block = helper.block(self.house, text)
        run = open_run(self.house, block, plan)
        self.assertIs(type(run), kind)
        self.same([(run.given, run.spent)] + [(one.given, one.spent) for one in run.children], [(0, 0)] * (1 + len(run.children)))
        found, told = [], []
        while True:
            row = run.pull()
            told.append(tuple((one.given, one.spent) for one in (run,) + tuple(run.children)))
            if row is None:
                break
            found.append(row)
        self.same(found, slowrows.rows(self.house, block, plan))
        wanted = slowrows.counts(self.house, block, plan)
        for path, one in line_runs(run):
            self.same((one.given, one.spent), wanted[path])
        for _ in range(3):
            self.same(run.pull(), None)
            self.same(tuple((one.given, one.spent) for one in (run,) + tuple(run.children)), told[-1])
        return told

    def spent(self, text, plan, kind):
        return self.moments(text, plan, kind)[-1][0]


class JoinRunTest(RunCase):

    JOIN = "select t.x, s.y from t, s where t.a = s.a"

    def test_loop(self):
        """The right child first, to the end; then the left one, row by row; each pair counts."""
        self.put(t=[(1, 0, "p"), (2, 0, "q"), (1, 0, "r")], s=[(1, 0, "a"), (3, 0, "b"), (1, 0, "c"), (2, 0, "d")])
        self.same(self.moments(self.JOIN, ("loop", T, S), LoopRun), [
            ((1, 4 + 1 + 1), (1, 1), (4, 4)), ((2, 4 + 1 + 3), (1, 1), (4, 4)), ((3, 4 + 2 + 8), (2, 2), (4, 4)),
            ((4, 4 + 3 + 9), (3, 3), (4, 4)), ((5, 4 + 3 + 11), (3, 3), (4, 4)), ((5, 4 + 3 + 12), (3, 3), (4, 4))])

    def test_hash(self):
        """2 for each right row; a left row meets those that are equal to it in all pairs."""
        self.put(t=[(1, 0, "p"), (2, 0, "q"), (5, 0, "z"), (1, 0, "r")], s=[(1, 0, "a"), (3, 0, "b"), (1, 0, "c"), (2, 0, "d"), (None, 0, "e")])
        self.same(self.moments(self.JOIN, ("hash", T, S), HashRun), [
            ((1, 10 + 1 + 1), (1, 1), (5, 5)), ((2, 10 + 1 + 2), (1, 1), (5, 5)), ((3, 10 + 2 + 3), (2, 2), (5, 5)),
            ((4, 10 + 4 + 4), (4, 4), (5, 5)), ((5, 10 + 4 + 5), (4, 4), (5, 5)), ((5, 10 + 4 + 5), (4, 4), (5, 5))])

    def test_merge(self):
        self.put(t=[(1, 0, "p"), (2, 0, "q"), (5, 0, "z"), (1, 0, "r")], s=[(1, 0, "a"), (3, 0, "b"), (1, 0, "c"), (2, 0, "d"), (None, 0, "e")])
        self.same(self.moments(self.JOIN, ("merge",) + WALKS, MergeRun), [
            ((1, 5 + 1 + 1), (1, 2), (5, 10)), ((2, 5 + 1 + 2), (1, 2), (5, 10)), ((3, 5 + 2 + 3), (2, 4), (5, 10)), ((4, 5 + 2 + 4), (2, 4), (5, 10)),
            ((5, 5 + 3 + 5), (3, 6), (5, 10)), ((5, 5 + 4 + 5), (4, 8), (5, 10))])

    def test_other_pairs(self):
        """Merge meets by the first pair alone, hash by all, loop by none; other pairs and tests are tested."""
        text = "select t.x, s.y from t, s where t.a = s.a and t.b = s.c and t.x < s.y"
        self.put(t=[(1, 1, "p"), (1, 2, "q"), (1, None, "z")], s=[(1, 1, "a"), (1, 2, "z"), (1, 1, "z"), (2, 1, "z")])
        self.same(self.spent(text, ("loop", T, S), LoopRun), (2, 4 + 3 + 12))
        self.same(self.spent(text, ("hash", T, S), HashRun), (2, 8 + 3 + 2 + 1))
        self.same(self.spent(text, ("merge",) + WALKS, MergeRun), (2, 4 + 3 + 3 * 3))
        self.house.drop_index("s", "bya")
        self.house.add_index("s", "bya", ("c",))
        self.same(self.spent(text, ("merge", ("walk", 0, "byb"), ("walk", 1, "bya")), MergeRun), (2, 4 + 3 + 3 + 1))

    def test_no_rows(self):
        """No rows on either side: the right child is pulled to the end, and so is the left one."""
        self.put(s=[(1, 0, "a"), (2, 0, "b")])
        for plan, kind, spent in ((("loop", T, S), LoopRun, 2), (("hash", T, S), HashRun, 4), (("merge",) + WALKS, MergeRun, 2)):
            self.same(self.moments(self.JOIN, plan, kind)[-1][0], (0, spent))
        self.house.take("s", (1, 0, "a"))
        self.house.take("s", (2, 0, "b"))
        for plan, kind in ((("loop", T, S), LoopRun), (("hash", T, S), HashRun), (("merge",) + WALKS, MergeRun)):
            self.same(self.moments(self.JOIN, plan, kind)[-1][0], (0, 0))
        self.put(t=[(1, 0, "a"), (2, 0, "b"), (3, 0, "c")])
        for plan, kind, below in ((("loop", T, S), LoopRun, 3), (("hash", T, S), HashRun, 3), (("merge",) + WALKS, MergeRun, 6)):
            self.same(self.moments(self.JOIN, plan, kind), [((0, 3), (3, below), (0, 0))])

    def test_left(self):
        text = "select t.a, s.c from t left join s on s.a = t.a and s.c > 1"
        self.put(t=[(1, 0, ""), (2, 0, ""), (3, 0, "")], s=[(1, 1, "a"), (1, 2, "b"), (3, 0, "c"), (3, 5, "d"), (3, 6, "e")])
        # three rows of s are taken
        self.same(self.moments(text, ("loop", T, S), LoopRun), [
            ((1, 3 + 1 + 1), (1, 1), (3, 5)), ((2, 3 + 2 + 6), (2, 2), (3, 5)), ((3, 3 + 3 + 8), (3, 3), (3, 5)), ((4, 3 + 3 + 9), (3, 3), (3, 5)),
            ((4, 3 + 3 + 9), (3, 3), (3, 5))])
        self.same(self.spent(text, ("hash", T, S), HashRun), (4, 6 + 3 + 3))
        self.same(self.spent(text, ("merge",) + WALKS, MergeRun), (4, 3 + 3 + 3))
        # a new test that is not true: what fits counts, and gives nothing
        text += " where maybe [s.c < 6] and t.a > 1"
        self.same(self.spent(text, ("hash", T, S), HashRun), (2, 6 + 2 + 2))
        text += " and [s.c > 0 or t.a > 2]"
        self.same(self.spent(text, ("hash", T, S), HashRun), (1, 6 + 2 + 2))

    def test_semi_and_anti(self):
        """Up to the first right row that fits, which counts; the others are not tested."""
        self.put(t=[(1, 1, ""), (2, 1, ""), (4, 1, "")], s=[(2, 0, "a"), (1, 1, "b"), (1, 2, "c"), (1, 3, "d"), (2, 9, "e")])
        for word, given in (("", (2, 1)), ("not ", (1, 2))):
            text = f"select t.b from t where {word}exists (from s where s.a = t.a)"
            self.same(self.spent(text, ("loop", T, S), LoopRun), (given[0], 5 + 3 + 2 + 1 + 5))
            self.same(self.spent(text, ("hash", T, S), HashRun), (given[0], 10 + 3 + 1 + 1 + 0))
            self.same(self.spent(text, ("merge",) + WALKS, MergeRun), (given[0], 5 + 3 + 1 + 1 + 0))
            text = f"select t.b from t where {word}exists (from s where s.a = t.a and s.c > t.b)"
            self.same(self.spent(text, ("loop", T, S), LoopRun), (given[0], 5 + 3 + 3 + 5 + 5))
            self.same(self.spent(text, ("hash", T, S), HashRun), (given[0], 10 + 3 + 2 + 2 + 0))
            self.same(self.spent(text, ("merge",) + WALKS, MergeRun), (given[0], 5 + 3 + 2 + 2 + 0))
        text = "select t.b from t where exists (from s where s.a = t.a)"
        self.same(self.moments(text, ("loop", T, S), LoopRun), [
            ((1, 5 + 1 + 2), (1, 1), (5, 5)), ((2, 5 + 2 + 3), (2, 2), (5, 5)), ((2, 5 + 3 + 8), (3, 3), (5, 5))])

    def test_nulls(self):
        text = "select t.x, s.y from t, s where t.b = s.a"
        self.put(t=[(1, None, "p"), (1, 2, "q")], s=[(None, 0, "a"), (2, 0, "b")])
        self.same(self.spent(text, ("loop", T, S), LoopRun), (1, 2 + 2 + 4))
        self.same(self.spent(text, ("hash", T, S), HashRun), (1, 4 + 2 + 1))
        self.same(self.spent(text, ("merge", ("walk", 0, "byb"), ("walk", 1, "bya")), MergeRun), (1, 2 + 2 + 1))

    def test_limit(self):
        """With a limit above nothing more is pulled once so many rows have come."""
        self.put(t=[(1, 0, "p"), (2, 0, "q"), (1, 0, "r")], s=[(1, 0, "a"), (3, 0, "b"), (1, 0, "c"), (2, 0, "d")])
        self.house.retell("t", (("rows", 9), ("lies", ("a",))))
        text = "select t.a, s.a as b from t, s where t.a = s.a limit {}"
        for limit, wanted in [
            (0, [(0, 0), (0, 0), (0, 0), (0, 0)]), (1, [(1, 1), (1, 4 + 1 + 1), (1, 1), (4, 4)]), (2, [(2, 2), (2, 4 + 1 + 3), (1, 1), (4, 4)]),
            (3, [(3, 3), (3, 4 + 2 + 5), (2, 2), (4, 4)]), (4, [(4, 4), (4, 4 + 2 + 7), (2, 2), (4, 4)]), (9, [(5, 5), (5, 4 + 3 + 12), (3, 3), (4, 4)]),
        ]:
            block = helper.block(self.house, text.format(limit))
            run = open_top(self.house, block, ("give", ("loop", T, S)))
            while run.pull() is not None:
                pass
            for _ in range(3):
                self.same(run.pull(), None)
                self.same([(one.given, one.spent) for _, one in line_runs(run)], wanted)


class LookRunTest(RunCase):

    JOIN = "select t.x, s.y from t, s where t.a = s.a"

    def test_core(self):
        """For each left row 1 and its look: looks, 2 for each entry, 1 for one behind."""
        self.put(t=[(1, 0, "p"), (3, 0, "q"), (2, 0, "r"), (9, 0, "z")], s=[(1, 0, "a"), (2, 0, "b"), (2, 1, "c"), (4, 0, "d")])
        plan = ("look", T, 1, "bya", 1)
        # entries by a: 1 2 2 4. Of 1: 3 looks, 2, 1; of 3: 2 looks, 1; of 2: 3 looks, 4, 1; of 9: 2 looks
        self.same(self.moments(self.JOIN, plan, LookRun), [
            ((1, 1 + 3 + 2), (1, 1)), ((2, 7 + 1 + 3 + 1 + 3 + 2), (3, 3)), ((3, 7 + 1 + 3 + 1 + 3 + 4), (3, 3)),
            ((3, 7 + 4 + 1 + 3 + 4 + 1 + 1 + 2), (4, 4))])

    def test_fixed(self):
        text = "select t.x, s.y from t, s where t.a = s.a and s.c = 1"
        self.put(t=[(1, 0, "p"), (2, 0, "q")], s=[(1, 0, "a"), (2, 0, "b"), (2, 1, "c"), (4, 0, "d")])
        # entries by a and c: (1 0) (2 0) (2 1) (4 0)
        self.same(self.spent(text, ("look", T, 1, "bya", 2), LookRun), (1, 1 + 3 + 1 + 1 + 2 + 2 + 1))
        # by c: the entry of 1 alone, at the end; tested for each left row
        self.same(self.spent(text, ("look", T, 1, "byc", 1), LookRun), (1, 2 * (1 + 2 + 2)))
        # entries that are read whose rows are not taken
        self.same(self.spent(text, ("look", T, 1, "bya", 1), LookRun), (1, 1 + 3 + 2 + 1 + 1 + 3 + 4 + 1))

    def test_nulls(self):
        """If a told value is null, the look counts nothing and finds nothing."""
        text = "select t.x, s.y from t, s where t.b = s.a"
        self.put(t=[(1, None, "p"), (1, 2, "q"), (1, None, "r")], s=[(None, 0, "a"), (2, 0, "b")])
        self.same(self.spent(text, ("look", T, 1, "bya", 1), LookRun), (1, 3 + 2 + 2))
        text = "select t.x, s.y from t left join s on s.a = t.b"
        self.same(self.spent(text, ("look", T, 1, "bya", 1), LookRun), (3, 3 + 2 + 2))
        for word, given in (("", 1), ("not ", 2)):
            text = f"select t.x from t where {word}exists (from s where s.a = t.b)"
            self.same(self.spent(text, ("look", T, 1, "bya", 1), LookRun), (given, 3 + 2 + 2))
        # one of several
        text = "select t.x, s.y from t, s where t.b = s.a and s.c = t.a"
        self.same(self.spent(text, ("look", T, 1, "bya", 2), LookRun), (0, 3 + 1))

    def test_first_pair(self):
        """The told value of an attachment's column is that of its first pair, or its bound one."""
        text = "select t.x from t left join s on s.a = t.a and s.a = t.b"
        self.put(t=[(1, 2, "p"), (2, 2, "q")], s=[(1, 0, "a"), (2, 0, "b")])
        # entries 1 2: 2 looks, 2, 1 of 1; 1 or 2 looks, 2 of 2
        self.same(self.spent(text, ("look", T, 1, "bya", 1), LookRun), (2, 1 + 2 + 2 + 1 + 1 + 2 + 2))
        text = "select t.x from t left join s on s.a = t.a and s.a = 2"
        self.same(self.spent(text, ("look", T, 1, "bya", 1), LookRun), (2, 1 + 2 + 2 + 1 + 2 + 2))

    def test_semi_and_anti(self):
        """It ends with the first entry whose row is taken and fits; nothing behind it counts."""
        self.put(t=[(1, 1, ""), (2, 1, ""), (4, 1, "")], s=[(1, 0, "a"), (1, 1, "b"), (1, 2, "c"), (1, 3, "d"), (2, 0, "e"), (2, 1, "f")])
        for word, given in (("", 2), ("not ", 1)):
            text = f"select t.b from t where {word}exists (from s where s.a = t.a)"
            # entries 1 1 1 1 2 2; of 1 and of 2 3 looks, of 4 2 looks
            self.same(self.spent(text, ("look", T, 1, "bya", 1), LookRun), (given, 3 + (3 + 2) + (3 + 2) + 2))
            text = f"select t.b from t where {word}exists (from s where s.a = t.a and s.c > t.b and s.y <> 'c')"
            one = self.spent(text, ("look", T, 1, "bya", 1), LookRun)
            # of 1 the fourth entry fits; of 2 none does, and there is no entry behind
            self.same(one, (2 if word else 1, 3 + (3 + 8) + (3 + 4) + 2))

    def test_limit(self):
        self.put(t=[(1, 0, "p"), (1, 0, "q")], s=[(1, 0, "a"), (1, 1, "b"), (2, 1, "c")])
        self.house.retell("t", (("rows", 9), ("lies", ("a",))))
        block = helper.block(self.house, "select t.a, s.a as b from t, s where t.a = s.a limit 1")
        run = open_top(self.house, block, ("give", ("look", T, 1, "bya", 1)))
        while run.pull() is not None:
            pass
        # entries 1 1 2: 2 looks
        self.same([(one.given, one.spent) for _, one in line_runs(run)], [(1, 1), (1, 1 + 2 + 2), (1, 1)])


class ChanceTest(RunCase):

    def test_counts(self):
        """Given and spent at the end, beside counts by the words of the points alone; rows as rows_of."""
        many = {}
        for chance, house, block in drawnplans.told_houses(820, 2, (0, 3, 8, 14)):
            for plan, _, _ in drawnplans.Drawn(chance, block, 35).pool:
                run = open_run(house, block, plan)
                found = []
                while (row := run.pull()) is not None:
                    found.append(row)
                    self.same(run.given, len(found))
                self.same(found, slowrows.rows(house, block, plan))
                self.same(run.pull(), None)
                if has_no_limit(block):
                    wanted = slowrows.counts(house, block, plan)
                    self.assertEqual({path: (one.given, one.spent) for path, one in line_runs(run)}, wanted)
                    many[plan[0]] = many.get(plan[0], 0) + 1
        for word in ("scan", "walk", "seek", "inner", "sort", "loop", "hash", "merge", "look", "bag", "stream"):
            self.assertGreater(many[word], 3, word)


def has_no_limit(block):
    return block.limit is None and all(isinstance(unit.source, str) or has_no_limit(unit.source) for unit in block.units)


if __name__ == "__main__":
    unittest.main()
