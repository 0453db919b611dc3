"""[30] [31] truths, folds and sequences."""

import itertools
import random
import unittest

import helper
from leastplans.folding import folded
from leastplans.ordering import alike_bags, in_order
from leastplans.truths import both, compared, either, negated, perhaps

TRUTHS = (True, False, None)
OPS = ("=", "<>", "<", "<=", ">", ">=")


class TruthsTest(helper.Case):

    def test_one(self):
        self.same([negated(t=t) for t in TRUTHS], [False, True, None])
        self.same([perhaps(t=t) for t in TRUTHS], [True, False, True])

    def test_two(self):
        pairs = list(itertools.product(TRUTHS, repeat=2))
        self.same([both(s=s, t=t) for s, t in pairs], [True, False, None, False, False, False, None, False, None])
        self.same([either(s=s, t=t) for s, t in pairs], [True, True, True, True, False, None, True, None, None])

    def test_example(self):
        self.same((both(None, False), either(None, False), perhaps(None), compared("<", 2, None)),
                  (False, None, True, None))

    def test_compared(self):
        big = 10 ** 59
        for low, high in ((0, 1), (-1, 0), (-big, 3), (3, big), (big, big + 1), ("", "a"), ("a", "aa"), ("A", "a"), ("10", "9")):
            told = [[compared(op=op, one=one, other=other) for op in OPS]
                    for one, other in ((low, high), (high, low), (low, low))]
            self.same(told, [[False, True, True, True, False, False], [False, True, False, False, True, True],
                             [True, False, False, True, False, True]])

    def test_compared_with_null(self):
        for op, value in itertools.product(OPS, (None, 0, 1, "", "a")):
            self.assertIsNone(compared(op, None, value))
            self.assertIsNone(compared(op, value, None))


class FoldingTest(helper.Case):

    def test_folds(self):
        self.every((
            ((), 0, None, None, None), ((None,), 0, None, None, None), ((None, None), 0, None, None, None),
            ((5,), 1, 5, 5, 5), ((3, None, 3), 2, 6, 3, 3), ((2, -7, None, 0), 3, -5, -7, 2), ((0, 0), 2, 0, 0, 0),
            ((10 ** 58, 10 ** 58, -1), 3, 2 * 10 ** 58 - 1, -1, 10 ** 58),
        ), self.check_numbers)

    def check_numbers(self, told, count, total, least, most):
        for made in (told, list(told)):
            found = [folded(fn=fn, column_values=made) for fn in ("count", "sum", "min", "max")]
            self.same(found, [count, total, least, most])
            self.same(made, type(made)(told))

    def test_texts(self):
        told = ("b", None, "", "ab", "b")
        self.same([folded(fn, told) for fn in ("count", "min", "max")], [4, "", "b"])


class OrderingTest(helper.Case):

    def test_example(self):
        self.same(in_order([(1, None), (2, 5), (1, 3)], ((1, "desc"),), 2), [(2, 5), (1, 3), (1, None)])

    def test_in_order(self):
        rows = [(1, "b"), (None, "a"), (1, None), (0, "b"), (1, "a"), (None, None)]
        up = [(None, None), (None, "a"), (0, "b"), (1, None), (1, "a"), (1, "b")]
        self.every((
            ((), up), (((0, "asc"),), up), (((0, "asc"), (1, "asc")), up),
            (((0, "desc"),), [(1, None), (1, "a"), (1, "b"), (0, "b"), (None, None), (None, "a")]),
            (((1, "asc"),), [(None, None), (1, None), (None, "a"), (1, "a"), (0, "b"), (1, "b")]),
            (((1, "desc"),), [(0, "b"), (1, "b"), (None, "a"), (1, "a"), (None, None), (1, None)]),
            (((1, "desc"), (0, "desc")), [(1, "b"), (0, "b"), (1, "a"), (None, "a"), (1, None), (None, None)]),
            (((0, "asc"), (1, "desc")), [(None, "a"), (None, None), (0, "b"), (1, "b"), (1, "a"), (1, None)]),
            (((0, "desc"), (1, "desc")), [(1, "b"), (1, "a"), (1, None), (0, "b"), (None, "a"), (None, None)]),
            (((0, "desc"), (0, "asc")), [(1, None), (1, "a"), (1, "b"), (0, "b"), (None, None), (None, "a")]),
        ), lambda orders, told: self.same(in_order(rows=rows, orders=orders, wide=2), told))
        self.assertEqual(rows[0], (1, "b"))

    def test_few_rows(self):
        self.same(in_order([], ((0, "desc"),), 1), [])
        rows = [(3,)]
        found = in_order(rows, (), 1)
        self.same(found, [(3,)])
        self.assertIsNot(found, rows)
        self.same(in_order([(1, 2), (1, 2)], ((0, "desc"),), 2), [(1, 2), (1, 2)])

    def test_one_list_for_all_sequences(self):
        """[38]"""
        rows = [(1, "b"), (None, "a"), (1, None), (1, "b")]
        for orders in ((), ((1, "desc"),), ((0, "desc"), (1, "asc")), ((1, "asc"), (0, "desc"))):
            found = {tuple(in_order(list(each), orders, 2)) for each in itertools.permutations(rows)}
            self.assertEqual(len(found), 1)

    def test_beside_pairs(self):
        """Of any two rows that follow one another the first place that parts them says why."""
        chance = random.Random(9)
        for _ in range(200):
            rows = [tuple(chance.choice((None, 0, 1, -1)) for _ in range(3)) for _ in range(chance.randrange(7))]
            orders = tuple((chance.randrange(3), chance.choice(("asc", "desc"))) for _ in range(chance.randrange(4)))
            found = in_order(rows, orders, 3)
            self.assertTrue(alike_bags(found, rows))
            for one, other in zip(found, found[1:]):
                for place, way in orders + ((0, "asc"), (1, "asc"), (2, "asc")):
                    if one[place] != other[place]:
                        lower = one[place] is None or other[place] is not None and one[place] < other[place]
                        self.assertEqual(lower, way == "asc")
                        break

    def test_alike_bags(self):
        one, two, null = (1, "a"), (2, "a"), (None, None)
        self.every((
            ([], [], True), ([one], [one], True), ([one, two], [two, one], True), ([one, one], [one], False),
            ([one], [one, one], False), ([one, one, two], [one, two, two], False), ([one, two, one], [one, one, two], True),
            ([null], [null], True), ([null], [one], False), ([(None, 1)], [(1, None)], False), ([one], [], False),
            ([], [one], False), ([(1,)], [("1",)], False), ([(1,)], [(1, None)], False), ([()], [()], True),
            ([()], [(), ()], False), ([one, two], [one, two, null], False),
        ), self.check_bags)

    def check_bags(self, one, other, told):
        before = list(one), list(other)
        self.same(alike_bags(one=one, other=other), told)
        self.same((one, other), before)


if __name__ == "__main__":
    unittest.main()
