"""[65] Folds."""

import itertools
import unittest

import helper
from leastplans.folding import folded
from leastplans.folds import added, scaled, single

FNS = ("count", "sum", "min", "max")


class FoldsTest(helper.Case):

    def test_added(self):
        for fn, one, other, wanted in [
            ("count", 0, 0, 0), ("count", 2, 3, 5), ("count", 0, 4, 4), ("count", 4, 0, 4),
            ("sum", 2, 3, 5), ("sum", -2, 2, 0), ("sum", None, 3, 3), ("sum", 3, None, 3), ("sum", None, None, None), ("sum", 0, None, 0),
            ("min", 2, 3, 2), ("min", 3, 2, 2), ("min", None, 3, 3), ("min", 3, None, 3), ("min", None, None, None), ("min", -1, -2, -2),
            ("max", 2, 3, 3), ("max", 3, 2, 3), ("max", None, 3, 3), ("max", 3, None, 3), ("max", None, None, None), ("max", -1, -2, -1),
            ("min", "b", "ab", "ab"), ("max", "b", "ab", "b"), ("min", None, "", ""), ("max", "", None, ""), ("min", "", "a", ""),
            ("sum", 10 ** 59, 10 ** 59, 2 * 10 ** 59), ("min", 0, None, 0), ("max", None, 0, 0), ("max", 7, 7, 7),
        ]:
            self.same(added(fn, one, other), wanted)
            self.same(added(fn=fn, one=one, other=other), wanted)

    def test_scaled(self):
        for fn, weight, fold, wanted in [
            ("count", 0, 5, 0), ("count", 1, 5, 5), ("count", 3, 5, 15), ("count", 3, 0, 0),
            ("sum", 0, 5, 0), ("sum", 1, 5, 5), ("sum", 3, -5, -15), ("sum", 3, None, None), ("sum", 0, None, None), ("sum", 3, 0, 0),
            ("min", 0, 5, 5), ("min", 1, 5, 5), ("min", 3, 5, 5), ("min", 3, None, None), ("min", 3, "a", "a"),
            ("max", 0, 5, 5), ("max", 1, 5, 5), ("max", 3, 5, 5), ("max", 3, None, None), ("max", 2, "", ""),
        ]:
            self.same(scaled(fn, weight, fold), wanted)
            self.same(scaled(fn=fn, weight=weight, fold=fold), wanted)

    def test_single(self):
        for value in (None, 0, 1, -3, "", "a"):
            for fn in FNS:
                if fn != "sum" or not isinstance(value, str):
                    wanted = (0 if value is None else 1) if fn == "count" else value
                    self.same(single(fn, value), wanted)
                    self.same(single(fn=fn, value=value), wanted)

    def test_beside_folded(self):
        """The folds of values, added and scaled, are the fold of all of them."""
        for one in itertools.product((None, 0, 2, -3), repeat=2):
            for other in itertools.product((None, 1, -4), repeat=2):
                for fn in FNS:
                    self.same(added(fn, folded(fn, one), folded(fn, other)), folded(fn, one + other))
            for fn in FNS:
                self.same(added(fn, *[single(fn, value) for value in one]), folded(fn, one))
                for weight in (1, 2, 5):
                    self.same(scaled(fn, weight, folded(fn, one)), folded(fn, one * weight))


if __name__ == "__main__":
    unittest.main()
