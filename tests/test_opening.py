"""[86] Opening runs."""

import random
import unittest

import drawnplans
import helper
from leastplans.listings import answer_of, rows_of
from leastplans.opening import line_runs, open_run, open_top
from leastplans.planshapes import nodes_of

T, S = ("scan", 0), ("scan", 1)
CLASSES = {
    "scan": "ScanRun", "walk": "WalkRun", "seek": "SeekRun", "inner": "InnerRun", "sort": "SortRun", "loop": "LoopRun", "hash": "HashRun",
    "merge": "MergeRun", "look": "LookRun", "bag": "BagRun", "stream": "StreamRun", "give": "GiveRun",
}


def pulled(run):
    """All rows that a run has still to give."""
    found = []
    while (row := run.pull()) is not None:
        found.append(row)
    return found


class OpeningTest(helper.Case):

    def test_rows(self):
        """The rows that rows_of and answer_of list, for each plan; classes and paths of the runs."""
        chance = random.Random(86)
        for house, block in helper.chance_blocks(861, 40):
            helper.put_let(house, chance, 4)
            drawn = drawnplans.Drawn(chance, block, 12)
            for call, other, things in ((open_run, rows_of, drawn.pool), (open_top, answer_of, drawn.tops)):
                for thing, *_ in things:
                    run = call(house, block, thing)
                    told = line_runs(run)
                    self.assertIs(type(told), list)
                    self.assertTrue(told[0] == ((), run) and told[0][1] is run)
                    self.same([(path, type(one).__name__) for path, one in told], [(path, CLASSES[node[0]]) for path, node in nodes_of(thing)])
                    self.same([(one.given, one.spent) for _, one in told], [(0, 0)] * len(told))
                    self.same(pulled(run), other(house, block, thing))
                    # they are the same runs still
                    self.assertTrue(all(one is another for (_, one), (_, another) in zip(told, line_runs(run))))

    def test_paths(self):
        house = helper.store()
        text = "select u.n, s.c from (select t.a, count (*) as n from t group by t.a) u left join s on s.a = u.n where u.a = 3"
        block = helper.block(house, text)
        run = open_top(house=house, block=block, top=("give", ("hash", ("inner", 0, ("give", ("bag", T))), S)))
        self.same([(path, type(one).__name__) for path, one in line_runs(run=run)], [
            ((), "GiveRun"), ((0,), "HashRun"), ((0, 0), "InnerRun"), ((0, 0, 0), "GiveRun"), ((0, 0, 0, 0), "BagRun"),
            ((0, 0, 0, 0, 0), "ScanRun"), ((0, 1), "ScanRun")])
        run = open_run(house=house, block=block, plan=("loop", ("inner", 0, ("give", ("bag", T))), S))
        self.same([path for path, _ in line_runs(run)], [(), (0,), (0, 0), (0, 0, 0), (0, 0, 0, 0), (1,)])
        # of a part of the runs, too
        self.same([path for path, _ in line_runs(line_runs(run)[1][1])], [(), (0,), (0, 0), (0, 0, 0)])

    def test_pulled_one_by_one(self):
        """Each run below has given what it says."""
        house = helper.shop(rows=True)
        block = helper.block(house, "select t.a, s.c from t, s where t.a = s.a")
        run = open_run(house, block, ("hash", T, S))
        told = []
        while run.pull() is not None:
            told.append([one.given for _, one in line_runs(run)])
        self.same(told, [[1, 1, 3], [2, 1, 3], [3, 2, 3], [4, 2, 3]])

    def test_house_is_changed(self):
        """Whatever is done to the house later changes nothing in a run, opened or begun."""
        for begun in (0, 1, 3):
            house = helper.store()
            house.add_index("t", "bya", ("a",))
            house.add_index("s", "bya", ("a",))
            for number in range(5):
                house.put("t", (number % 3, number, "x"))
                house.put("s", (number % 2, number, "y"))
            block = helper.block(house, "select t.b, s.c, u.n from t, s, (select s.c, count (*) as n from s group by s.c) u where t.a = s.a and u.c = t.b")
            inner = ("inner", 2, ("give", ("bag", T)))
            tops = [("give", ("hash", (word, *plans), inner)) for word, plans in [
                ("loop", (T, S)), ("hash", (("walk", 0, "bya"), S)), ("merge", (("walk", 0, "bya"), ("walk", 1, "bya"))), ("look", (T, 1, "bya", 1))]]
            wanted = [answer_of(house, block, top) for top in tops]
            self.assertGreater(min(len(one) for one in wanted), 3)
            runs = [open_top(house, block, top) for top in tops]
            found = [[run.pull() for _ in range(begun)] for run in runs]
            for number in range(4):
                house.put("t", (1, number, "z"))
                house.put("s", (1, number, "z"))
            house.take("t", (0, 0, "x"))
            house.take("s", (1, 1, "y"))
            house.drop_index("t", "bya")
            house.drop_index("s", "bya")
            house.add_index("s", "bya", ("y", "c"))
            house.retell("t", (("rows", 50), ("lies", ("x", "b"))))
            house.drop("v")
            house.drop("t")
            house.add_table("t", helper.number_columns("ab", ""), (("rows", 1),))
            for one, run, rows in zip(found, runs, wanted):
                self.same(one + pulled(run), rows)

    def test_house_is_not_changed(self):
        house = helper.shop(rows=True)
        block = helper.block(house, "select t.a, s.c from t, s where t.a = s.a order by c")
        before = (house.rows_of_table("t"), house.rows_of_table("s"), house.names(), house.edition("t"))
        pulled(open_top(house, block, ("give", ("loop", T, S), "sorted")))
        self.same((house.rows_of_table("t"), house.rows_of_table("s"), house.names(), house.edition("t")), before)

    def test_several(self):
        """Runs of one plan do not affect one another."""
        house = helper.shop(rows=True)
        block = helper.block(house, "select t.b, s.c from t, s where t.a = s.a")
        one, other = (open_top(house, block, ("give", ("hash", T, S))) for _ in range(2))
        wanted = answer_of(house, block, ("give", ("hash", T, S)))
        self.same([one.pull(), one.pull(), other.pull()], [wanted[0], wanted[1], wanted[0]])
        self.same((one.given, other.given), (2, 1))
        self.same(pulled(one), wanted[2:])
        self.same(pulled(other), wanted[1:])


if __name__ == "__main__":
    unittest.main()
