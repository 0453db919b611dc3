"""[80] Sorting that counts."""

import random
import unittest

import helper
import slowrows
from leastplans.countings import sorted_counted


class CountTest(helper.Case):

    def check(self, keys, wanted, many):
        rows = [(key, at) for at, key in enumerate(keys)]
        ranks = [((1, key),) for key in keys]
        self.same(sorted_counted(rows=rows, ranks=ranks), ([rows[at] for at in wanted], many))
        self.same(sorted_counted(rows, ranks), ([rows[at] for at in wanted], many))

    def test_document(self):
        self.same(sorted_counted(["c", "a", "b"], [((1, 3),), ((1, 1),), ((1, 2),)]), (["a", "b", "c"], 3))

    def test_few(self):
        self.same(sorted_counted([], []), ([], 0))
        self.check([5], [0], 0)
        self.check([1, 2], [0, 1], 1)
        self.check([2, 1], [1, 0], 1)
        self.check([1, 1], [0, 1], 1)

    def test_halves(self):
        """The first x // 2 and the others, each by itself, then merged."""
        # 1 and (2 3): 1 comparison within, 1 to merge
        self.check([1, 2, 3], [0, 1, 2], 2)
        self.check([2, 1, 3], [1, 0, 2], 3)
        self.check([3, 1, 2], [1, 2, 0], 3)
        self.check([1, 2, 3, 4], [0, 1, 2, 3], 4)
        self.check([3, 4, 1, 2], [2, 3, 0, 1], 4)
        self.check([1, 3, 2, 4], [0, 2, 1, 3], 5)
        self.check([4, 3, 2, 1], [3, 2, 1, 0], 4)
        self.check([1, 2, 3, 4, 5], [0, 1, 2, 3, 4], 1 + 2 + 2)
        self.check([5, 4, 3, 2, 1], [4, 3, 2, 1, 0], 1 + 3 + 3)
        self.check([4, 5, 1, 2, 3], [2, 3, 4, 0, 1], 1 + 2 + 3)

    def test_alike(self):
        """Of alike tuples the first one goes first."""
        self.check([1, 1, 1], [0, 1, 2], 2)
        self.check([2, 1, 2, 1], [1, 3, 0, 2], 1 + 1 + 3)
        self.check([1, 0, 1, 0, 1], [1, 3, 0, 2, 4], 1 + 3 + 3)

    def test_ranks(self):
        """By tuples of ranks, whatever the rows are."""
        rows = ["x", "y", "z", "u"]
        ranks = [((1, "b"), (0,)), ((0,), (1, 7)), ((1, "b"), (1, -3)), ((1, ""), (0,))]
        self.same(sorted_counted(rows, ranks), (["y", "u", "x", "z"], 5))
        self.same(sorted_counted(["b", "a"], [((1, 0),), ((1, 1),)]), (["b", "a"], 1))
        self.same(sorted_counted(["b", "a", "c"], [(), (), ()]), (["b", "a", "c"], 2))

    def test_nothing_is_changed(self):
        one = ["one"]
        rows, ranks = [one, "b", one], [((1, 2),), ((1, 1),), ((1, 2),)]
        found, many = sorted_counted(rows, ranks)
        self.same((rows, ranks), ([["one"], "b", ["one"]], [((1, 2),), ((1, 1),), ((1, 2),)]))
        self.same((found, many), (["b", ["one"], ["one"]], 3))
        # one object at several places stays that object
        self.assertTrue(found[1] is one and found[2] is one)
        for few in ([], [1]):
            self.assertIsNot(sorted_counted(few, [()] * len(few))[0], few)

    def test_beside_slow_ones(self):
        chance = random.Random(80)
        for _ in range(400):
            keys = [chance.randrange(chance.choice((2, 5, 50))) for _ in range(chance.randrange(40))]
            chance.choice((keys.sort, lambda: keys.sort(reverse=True), list, list))()
            rows = list(range(len(keys)))
            found, many = sorted_counted(rows, [((1, key),) for key in keys])
            self.same(found, sorted(rows, key=lambda at: keys[at]))
            self.same(many, slowrows.merge_count(keys)[1])
            # the price of a sort is never below
            lift = (len(keys) - 1).bit_length() if len(keys) > 1 else 0
            self.assertLessEqual(many, len(keys) * lift)


if __name__ == "__main__":
    unittest.main()
