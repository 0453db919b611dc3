"""[66] JoinSight."""

import unittest

import drawnplans
import helper
import slowrows
from leastplans.ceilings import Ceilings
from leastplans.joinsteps import why_join
from leastplans.listjoins import JoinSight
from leastplans.states import all_states, seen
from leastplans.takings import leaf_row


def as_is(*units):
    return tuple(((u,), 0) for u in units)


def squeezed(*units):
    return ((units, 1),)


class SightTest(helper.Case):

    def sight(self, text, left, right):
        block = helper.block(helper.store(), text)
        self.seen = (seen(block, left), seen(block, right))
        return JoinSight(sizes=Ceilings(block), left_state=left, right_state=right)

    def fits(self, sight, left, right, wanted):
        self.same(sight.row_fits(left=left, right=right), wanted)
        self.same(sight.row_fits(left, right), wanted)

    def both(self, sight, left, right, wanted):
        self.fits(sight, left, right, True)
        self.same(sight.row_of_both(left=left, right=right), wanted)
        self.same(sight.row_of_both(left, right), wanted)

    def nulls(self, sight, left, wanted):
        self.same(sight.row_of_nulls(left=left), wanted)
        self.same(sight.row_of_nulls(left), wanted)

    def test_equal_marks(self):
        # t.a, s.a 0; t.b, s.c 1; t.x 2; s.y 5
        sight = self.sight("select t.x, s.y from t, s where t.a = s.a and t.b = s.c", as_is(0), as_is(1))
        self.same(self.seen, ((0, 1, 2), (0, 1, 5)))
        left = ((1, 2, "p"), 1, ())
        self.both(sight, left, ((1, 2, "q"), 1, ()), ((1, 2, "p", "q"), 1, ()))
        for values in ((1, 3, "q"), (2, 2, "q"), (None, 2, "q"), (1, None, "q"), (2, 1, "p")):
            self.fits(sight, left, (values, 1, ()), False)
        for values in ((None, 2, "p"), (1, None, "p")):
            self.fits(sight, (values, 1, ()), (values[:2] + ("q",), 1, ()), False)
        self.both(sight, ((1, 2, None), 1, ()), ((1, 2, ""), 1, ()), ((1, 2, None, ""), 1, ()))

    def test_nothing_shared(self):
        sight = self.sight("select t.b, s.c from t, s", as_is(1), as_is(0))
        self.same(self.seen, ((1,), (0,)))
        self.both(sight, ((None,), 1, ()), ((7,), 1, ()), ((7, None), 1, ()))

    def test_new_tests(self):
        """Tests that become ready by joining; not those of one of the two."""
        text = "select t.a from t, s, p where t.b > s.c and t.a > 5 and s.a > 5 and p.k > t.a + s.a and 1 = 2"
        # t.a 0, t.b 1, s.a 2, s.c 3, p.k 4 by place among the mentioned
        sight = self.sight(text, as_is(0), as_is(1))
        t, s = self.seen
        self.same((len(t), len(s)), (2, 2))
        self.both(sight, ((0, 4), 1, ()), ((0, 3), 1, ()), ((0, 4, 0, 3), 1, ()))
        for b, c in ((3, 3), (3, 4), (None, 3), (3, None), (None, None)):
            self.fits(sight, ((9, b), 1, ()), ((9, c), 1, ()), False)
        sight = self.sight(text, as_is(0, 1), as_is(2))
        self.fits(sight, ((3, 0, 4, 9), 1, ()), ((8,), 1, ()), True)
        self.fits(sight, ((3, 0, 4, 9), 1, ()), ((7,), 1, ()), False)
        sight = self.sight(text, as_is(0, 2), as_is(1))
        self.same(self.seen[0][:2], t)
        self.fits(sight, ((3, 1, 8), 1, ()), ((4, 0), 1, ()), True)
        self.fits(sight, ((3, 0, 8), 1, ()), ((4, 0), 1, ()), False)
        self.fits(sight, ((3, 1, 7), 1, ()), ((4, 0), 1, ()), False)

    def test_weights_and_folds(self):
        text = ("select t.a, count (*) as n, sum (t.b) as x, count (s.c) as k, min (s.y) as m from t, s where t.a = s.a group by t.a")
        sight = self.sight(text, squeezed(0), squeezed(1))
        left, right = ((1,), 3, (None, 10, None, None)), ((1,), 4, (None, None, 5, "q"))
        self.both(sight, left, right, ((1,), 12, (None, 40, 15, "q")))
        self.both(sight, ((1,), 3, (None, None, None, None)), ((1,), 2, (None, None, 0, None)), ((1,), 6, (None, None, 0, None)))
        self.fits(sight, left, ((2,), 4, (None, None, 5, "q")), False)
        sight = self.sight(text, as_is(1), squeezed(0))
        self.both(sight, ((1,), 1, (None, None, 1, "z")), left, ((1,), 3, (None, 10, 3, "z")))
        # min and max of a side that weighs more stay
        sight = self.sight(text.replace("sum (t.b)", "max (t.b)"), squeezed(0), squeezed(1))
        self.both(sight, ((1,), 3, (None, -7, None, None)), right, ((1,), 12, (None, -7, 15, "q")))

    def test_squeezed_new_tests(self):
        text = "select count (*) as n from t, s where t.b > s.c and t.a > 5"
        sight = self.sight(text, squeezed(0), squeezed(1))
        self.both(sight, ((4,), 2, (None,)), ((3,), 5, (None,)), ((4, 3), 10, (None,)))
        self.fits(sight, ((3,), 2, (None,)), ((3,), 5, (None,)), False)

    def test_left_unit(self):
        text = "select t.x, s.y from t left join s on s.a = t.a and s.c > t.b and s.y < 'm'"
        sight = self.sight(text, as_is(0), ("side", 1))
        self.same(self.seen, ((0, 1, 2), (3, 4, 5)))
        left = ((1, 2, "p"), 1, ())
        self.both(sight, left, ((1, 3, "z"), 1, ()), ((1, 2, "p", 1, 3, "z"), 1, ()))
        for values in ((1, 2, "a"), (2, 3, "a"), (None, 3, "a"), (1, None, "a")):
            self.fits(sight, left, (values, 1, ()), False)
        self.nulls(sight, left, ((1, 2, "p", None, None, None), 1, ()))
        self.nulls(sight, ((None, None, None), 1, ()), ((None,) * 6, 1, ()))

    def test_left_unit_tests(self):
        """New tests of a left unit are looked at on the row: it fits, but gives nothing."""
        text = "select t.a from t left join s on s.a = t.a where maybe [s.c > t.b] and t.b < 5"
        sight = self.sight(text, as_is(0), ("side", 1))
        a, b = ((1, 9), 1, ()), ((1, None), 1, ())
        self.same(self.seen, ((0, 1), (2, 3)))
        self.both(sight, a, ((1, 10), 1, ()), ((1, 9, 1, 10), 1, ()))
        self.both(sight, a, ((1, 9), 1, ()), None)
        self.both(sight, b, ((1, 9), 1, ()), ((1, None, 1, 9), 1, ()))
        self.nulls(sight, a, ((1, 9, None, None), 1, ()))
        text = text.replace("maybe [s.c > t.b]", "[s.c is null or s.c > t.b] and not [t.b = 7 and s.c is null]")
        sight = self.sight(text, as_is(0), ("side", 1))
        self.nulls(sight, a, ((1, 9, None, None), 1, ()))
        self.nulls(sight, ((1, 7), 1, ()), None)
        self.both(sight, ((1, 7), 1, ()), ((1, 7), 1, ()), None)
        self.both(sight, ((1, 7), 1, ()), ((1, None), 1, ()), None)
        # a test that is ready in the left unit and core units that are not there is not looked at
        text = "select t.a from t left join s on s.a = t.a, p where maybe [s.c > p.k]"
        sight = self.sight(text, as_is(0), ("side", 1))
        self.both(sight, ((1,), 1, ()), ((1, 0), 1, ()), ((1, 1, 0), 1, ()))
        sight = self.sight(text, as_is(0, 2), ("side", 1))
        self.both(sight, ((1, 5), 1, ()), ((1, 0), 1, ()), None)
        sight = self.sight(text, as_is(0, 1), as_is(2))
        self.fits(sight, ((1, 1, 0), 1, ()), ((5,), 1, ()), False)
        self.fits(sight, ((1, None, None), 1, ()), ((5,), 1, ()), True)

    def test_left_unit_folds(self):
        text = ("select t.a, count (*) as n, sum (t.b) as x, count (s.c) as k, max (s.c) as m "
                "from t left join s on s.a = t.a group by t.a")
        sight = self.sight(text, squeezed(0), ("side", 1))
        left = ((1,), 3, (None, 10, None, None))
        self.both(sight, left, ((1,), 1, (None, None, 1, 7)), ((1, 1), 3, (None, 10, 3, 7)))
        self.both(sight, left, ((1,), 1, (None, None, 0, None)), ((1, 1), 3, (None, 10, 0, None)))
        self.nulls(sight, left, ((1, None), 3, (None, 10, 0, None)))
        self.nulls(sight, ((1,), 1, (None, None, None, None)), ((1, None), 1, (None, None, 0, None)))

    def test_semi_and_anti(self):
        for word in ("", "not "):
            text = f"select t.x, count (*) as n from t where {word}exists (from s where s.a = t.a and s.c > t.b) group by t.x"
            sight = self.sight(text, squeezed(0), ("side", 1))
            left = (("p", 1, 2) if self.seen[0] == (2, 0, 1) else (1, 2, "p"), 3, (None,))
            self.both(sight, left, ((1, 3), 1, (None,)), left)
            self.assertIs(sight.row_of_both(left, ((1, 3), 1, (None,))), left)
            for values in ((1, 2), (2, 3), (None, 3), (1, None)):
                self.fits(sight, left, (values, 1, (None,)), False)
        text = "select t.b from t where t.b not in (select s.c from s)"
        sight = self.sight(text, as_is(0), ("side", 1))
        for b, c, wanted in [(1, 1, True), (1, 2, False), (None, 1, True), (1, None, True), (None, None, True)]:
            self.fits(sight, ((b,), 1, ()), ((c,), 1, ()), wanted)

    def test_beside_slow_ones(self):
        """Over states by chance: each pair of rows of their bags."""
        many = {}
        for _, house, block in drawnplans.told_houses(661, 3, (8, 16)):
            sizes = Ceilings(block)
            states = list(all_states(block)) + [("side", u) for u, unit in enumerate(block.units) if unit.kind != "core"]
            bags = {state: slowrows.bag(house, block, state)[:6] for state in states}
            for left in states:
                for right in states:
                    if why_join(sizes, "loop", (left, ()), (right, ())) is not None:
                        continue
                    sight, slow_one = JoinSight(sizes, left, right), slowrows.Sight(block, left, right)
                    for row in bags[left]:
                        self.pair(many, sight, slow_one, row, bags[right])
        for key in [(kind, word) for kind in ("core", "left", "semi", "anti") for word in (True, False)]:
            self.assertGreater(many[key], 50, (key, many))
        self.assertGreater(many["none"], 20)

    def pair(self, many, sight, slow_one, row, others):
        for other in others:
            fits = slow_one.fits(row, other)
            self.same(sight.row_fits(row, other), fits)
            many[slow_one.kind, fits] = many.get((slow_one.kind, fits), 0) + 1
            if fits:
                wanted = slow_one.both(row, other)
                self.same(sight.row_of_both(row, other), wanted)
                many["none"] = many.get("none", 0) + (wanted is None)
        if slow_one.kind == "left":
            self.same(sight.row_of_nulls(row), slow_one.nulls(row))

    def test_leaf_rows_fit(self):
        """Rows of leaf steps are what a JoinSight takes."""
        text = "select t.x, s.y from t, s where t.a = s.a and t.b > s.c"
        block = helper.block(helper.store(), text)
        sight = JoinSight(Ceilings(block), as_is(0), as_is(1))
        left = leaf_row(block, 0, (1, 5, "p"))
        for row, wanted in [((1, 4, "q"), True), ((1, 5, "q"), False), ((2, 4, "q"), False), ((None, 4, "q"), False)]:
            self.same(sight.row_fits(left, leaf_row(block, 1, row)), wanted)


if __name__ == "__main__":
    unittest.main()
