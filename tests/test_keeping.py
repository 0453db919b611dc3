"""[51] [52] Closed sets and states."""

import itertools
import unittest

import helper
import slow
from leastplans.keeping import is_closed, kept, marks_in, ready
from leastplans.states import all_states, is_side, seen, units_of, whole_state

SUMS = "select t.a, sum (t.b) as x, count (*) as n from t join s on t.a = s.a group by t.a"
# t.a 0, t.b 1, t.x 2 of core unit 0; s.a 3, s.c 4 of left unit 1; p.k 5 of left unit 2, which needs 4;
# s.y 6 of semi unit 3, which needs 2
NEEDS = (
    "select t.a from t left join s on s.a = t.a and s.c = t.b left join p on p.k = s.c "
    "where exists (from s where s.y = t.x)")


class KeepingTest(helper.Case):

    def test_closed(self):
        block = helper.block(helper.store(), NEEDS)
        closed = [units for many in range(5) for units in itertools.combinations(range(4), many)
                  if is_closed(block=block, units=units)]
        self.same(closed, [(0,), (0, 1), (0, 3), (0, 1, 2), (0, 1, 3), (0, 1, 2, 3)])
        for units in ((), (1,), (1, 2), (0, 2)):
            self.same(is_closed(block, units), False)
        self.same(is_closed(block, (0,)), True)

    def test_marks_in(self):
        block = helper.block(helper.store(), NEEDS)
        for units, wanted in [((), ()), ((0,), (0, 1, 2)), ((1,), (3, 4)), ((3,), ()), ((1, 2), (3, 4, 5)),
                              ((0, 1, 2, 3), (0, 1, 2, 3, 4, 5))]:
            self.same(marks_in(block=block, units=units), wanted)
        block = helper.block(helper.store(), "select t.x from t, s where t.a = s.c and t.b = s.c and s.y = t.x")
        self.same([marks_in(block, units) for units in ((0,), (1,), (0, 1))], [(0, 2), (0, 2), (0, 2)])

    def test_ready(self):
        text = ("select t.x from t, s r left join s on s.a = r.a where t.a < r.c and 1 = 2 and t.b > 0 "
                "and [s.c is null or t.a = 1] and s.c is null and r.c <> 1 and 'x' < t.x")
        block = helper.block(helper.store(), text)
        self.same(len(block.tests), 7)
        for units, wanted in [((), (1,)), ((0,), (1, 2, 6)), ((1,), (1, 5)), ((2,), (1, 4)), ((0, 1), (0, 1, 2, 5, 6)),
                              ((1, 2), (1, 4, 5)), ((0, 1, 2), (0, 1, 2, 3, 4, 5, 6))]:
            self.same(ready(block=block, units=units), wanted)
        # the marks of semi and anti units are in no test
        self.same(ready(helper.block(helper.store(), NEEDS), ()), ())

    def test_kept(self):
        """Each reason for which a mark is kept, by itself."""
        house = helper.store()
        cases = [
            # a group
            ("select t.x, count (*) as n from t, s group by t.x, s.y", [((0,), (0,)), ((1,), (1,)), ((0, 1), (0, 1))]),
            # a core unit outside
            ("select 1 as d from t, s, p where t.a = s.a and t.b = p.k",
             [((0,), (0, 1)), ((1,), (0,)), ((2,), (1,)), ((0, 1), (1,)), ((0, 2), (0,)), ((1, 2), (0, 1)), ((0, 1, 2), ())]),
            # the need of an attachment outside
            ("select t.x from t left join s on s.a = t.a", [((0,), (0,)), ((0, 1), ())]),
            ("select t.x from t where exists (from s where s.a < t.a)", [((0,), (0,)), ((0, 1), ())]),
            ("select t.x from t where t.b not in (select s.a from s)", [((0,), (0,)), ((0, 1), ())]),
            # a test that is not ready
            ("select 1 as d from t, s, p where t.a + s.a < 1 and p.k > 2",
             [((0,), (0,)), ((1,), (1,)), ((2,), ()), ((0, 1), ()), ((0, 2), (0,)), ((0, 1, 2), ())]),
            # an output alone is no reason
            ("select t.a, t.b from t, s where s.a = 1", [((0,), ()), ((1,), ()), ((0, 1), ())]),
        ]
        for text, told in cases:
            block = helper.block(house, text)
            for units, wanted in told:
                with self.subTest(text=text, units=units):
                    self.same(kept(block=block, units=units), wanted)

    def test_beside_slow_ones(self):
        for _, block in helper.chance_blocks(51, 120):
            every = range(len(block.units))
            for units in [one for many in range(len(every) + 1) for one in itertools.combinations(every, many)]:
                self.same(is_closed(block, units), slow.closed(block, units))
                self.same(marks_in(block, units), tuple(sorted(slow.marks_of(block, units))))
                if slow.closed(block, units):
                    self.same(kept(block, units), tuple(sorted(slow.kept(block, units))))

    def test_smaller_sets(self):
        """The marks of kept of a set that a smaller one bears are in kept of the smaller one ([55])."""
        for _, block in helper.chance_blocks(52, 80):
            every = range(len(block.units))
            closed = [one for many in range(len(every) + 1) for one in itertools.combinations(every, many)
                      if is_closed(block, one)]
            for small, great in itertools.product(closed, closed):
                if set(small) <= set(great):
                    both = set(kept(block, great)) & set(marks_in(block, small))
                    self.assertLessEqual(both, set(kept(block, small)))


class StatesTest(helper.Case):

    def test_document(self):
        block = helper.block(helper.shop(), SUMS)
        found = all_states(block=block)
        self.same(found[:2], ((((0,), 0),), (((0,), 1),)))
        self.same(found[5:7], ((((0,), 0), ((1,), 1)), (((0,), 1), ((1,), 0))))
        self.same(found[2:5], ((((1,), 0),), (((1,), 1),), (((0,), 0), ((1,), 0))))
        self.same(found[7:], ((((0,), 1), ((1,), 1)), (((0, 1), 1),)))
        self.same((kept(block, (0,)), kept(block, (0, 1)), seen(block, found[6])), ((0,), (0,), (0,)))

    def test_units_of(self):
        self.same(units_of(state=(((0, 3), 1), ((1,), 0), ((2, 4), 1))), (0, 1, 2, 3, 4))
        self.same(units_of((((0,), 0),)), (0,))
        self.same(units_of(("side", 3)), (3,))
        self.same([is_side(state=("side", 0)), is_side((((0,), 0),)), is_side((((0, 1), 1),))], [True, False, False])

    def test_seen(self):
        block = helper.block(helper.store(), NEEDS)
        cases = [
            ((((0,), 0),), (0, 1, 2)), ((((0,), 0), ((1,), 0)), (0, 1, 2, 3, 4)),
            ((((0,), 0), ((3,), 0)), (0, 1, 2)), (("side", 1), (3, 4)), (("side", 3), (6,)), (("side", 2), (5,)),
        ]
        for state, wanted in cases:
            self.same(seen(block=block, state=state), wanted)
        block = helper.block(helper.store(), "select sum (t.a) as n from t, s, p where t.a < s.a and t.b = p.k")
        cases = [
            ((((0,), 0),), (0, 1)), ((((0,), 1),), (0, 1)), ((((0, 1), 1),), (1,)), ((((0, 1, 2), 1),), ()),
            ((((0, 1), 1), ((2,), 0)), (1,)), ((((0, 2), 1), ((1,), 1)), (0, 2)), ((((0,), 1), ((1,), 0)), (0, 1, 2)),
        ]
        for state, wanted in cases:
            self.same(seen(block, state), wanted)

    def test_whole(self):
        self.same(whole_state(block=helper.block(helper.store(), NEEDS)),
                  (((0,), 0), ((1,), 0), ((2,), 0), ((3,), 0)))
        self.same(whole_state(helper.block(helper.store(), "select count (*) as n from t, s")), (((0, 1), 1),))
        self.same(whole_state(helper.block(helper.store(), "select count (*) as n from t")), (((0,), 1),))

    def test_attachments(self):
        block = helper.block(helper.store(), "select t.x from t where t.a in (select s.a from s)")
        self.same(all_states(block), ((((0,), 0),), (((0,), 0), ((1,), 0))))
        block = helper.block(
            helper.store(), "select count (*) as n from t left join s on s.a = t.a left join p on p.k = s.c")
        u0, u1, u2 = [((u,), 0) for u in range(3)]
        q0, q01, q012 = ((0,), 1), ((0, 1), 1), ((0, 1, 2), 1)
        self.same(all_states(block), (
            (u0,), (q0,), (u0, u1), (q0, u1), (q01,),
            (u0, u1, u2), (q0, u1, u2), (q01, u2), (q012,)))

    def test_left_ahead_of_core(self):
        """The need of a left unit may be borne by a core unit behind it."""
        block = helper.block(helper.store(), "select t.x from t left join s on s.a = t.a join p on p.k = t.a")
        self.same([units_of(state) for state in all_states(block)],
                  [(0,), (2,), (0, 1), (0, 2), (1, 2), (0, 1, 2)])
        block = helper.block(helper.store(), "select count (*) as n from t left join s on s.a = t.a join p on p.k = t.a")
        self.same([state for state in all_states(block) if units_of(state) == (1, 2)],
                  [(((1,), 0), ((2,), 0)), (((1,), 0), ((2,), 1)), (((1, 2), 1),)])

    def test_how_many(self):
        """G13 of [11]."""
        bells = [1, 1, 2, 5, 15, 52, 203, 877]
        for many in range(1, 6):
            sources = ", ".join(f"t t{at}" for at in range(many))
            found = all_states(helper.block(helper.store(), f"select t0.a from {sources} where t0.a = t{many - 1}.b"))
            self.same(len(found), 2 ** many - 1)
            if many < 5:
                found = all_states(helper.block(helper.store(), f"select t0.a from {sources} group by t0.a"))
                self.same(len(found), bells[many + 2] - bells[many + 1] - 1)

    def test_beside_slow_ones(self):
        seen_kinds = {}
        for _, block in helper.chance_blocks(521, 80):
            found = all_states(block)
            self.same(found[-1], whole_state(block))

            def place(state):
                alone = len(state) == 1 and state[0][1] == 1
                return (len(units_of(state)), units_of(state), alone, state)
            self.same(list(found), sorted(slow.states(block), key=place))
            self.same(len(set(found)), len(found))
            for state in found:
                self.same(seen(block, state), tuple(sorted(slow.seen(block, state))))
            seen_kinds[(block.grouped, len(block.units))] = True
        self.assertGreater(len(seen_kinds), 6)


if __name__ == "__main__":
    unittest.main()
