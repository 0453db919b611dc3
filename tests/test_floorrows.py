"""[73] The form of floors."""

import random
import unittest

import helper
from leastplans.choosing import least
from leastplans.floorrows import is_floors

AT = (((0,), 0),)
ROW = ("made", AT, (), 7)
GOOD = ((), (ROW, ("all", ("side", 3), (2, 0, 5), 0), ("give", (), (1, 0), 10 ** 59)), 10 ** 59)
STATES = [
    AT, (((0,), 1),), (((0, 1), 1),), (((0,), 0), ((1,), 1)), (((0,), 1), ((1,), 0)), (((0, 2), 1), ((1,), 0)), (((0,), 0), ((1, 2, 9), 1)),
    (((10 ** 59,), 0),), ("side", 0), ("side", 10 ** 59), (((0,), 0), ((1,), 0), ((2,), 0), ((3,), 0), ((4,), 0)),
]
NO_STATES = [
    None, True, 0, "", "side", (), ((),), [], [((0,), 0)], ("side",), ("side", -1), ("side", True), ("side", None), ("side", "0"), ("side", 0, 0),
    ("sides", 0), ("", 0), (0, "side"), ["side", 0], ("side", (0,)), (((0,), 2),), (((0,), -1),), (((0,), True),), (((0,), False),), (((0,), None),),
    (((0,), "0"),), (((0,),),), (((0,), 0, 0),), ((0, 0),), (([0], 0),), ([(0,), 0],), (((), 0),), (((), 1),), (((0, 1), 0),), (((1, 0), 1),),
    (((0, 0), 1),), (((-1,), 0),), (((True,), 0),), (((False,), 0),), (((None,), 0),), ((("0",), 0),), ((((0,),), 0),), (((1,), 0), ((0,), 0)),
    (((0,), 0), ((0,), 0)), (((0,), 0), ((0,), 1)), (((0, 1), 1), ((1,), 0)), (((0, 2), 1), ((1, 2), 1)), (((0,), 1), ((0, 1), 1)), (((0,), 0), 0),
    (((0,), 0), None), ("side", ((0,), 0)), (((0,), 0), "side"), (((0,), 0), []),
]
ORDERS = [(), (0,), (3, 1, 2), (10 ** 59,), tuple(range(60))]
NO_ORDERS = [None, True, 0, "", "0", [], [0], (0, 0), (3, 1, 3), (-1,), (True,), (False,), (0, True), (None,), ("0",), ((0,),), (0, 1, (2,))]
NUMBERS = [0, 1, 10 ** 59, 10 ** 60 - 1]
NO_NUMBERS = [None, True, False, -1, -10 ** 59, "", "1", (), (1,), [1]]


class FormTest(helper.Case):

    def let(self, *things):
        for thing in things:
            with self.subTest(thing=thing):
                self.same(is_floors(thing=thing), True)
                self.same(is_floors(thing), True)
                # within others
                self.same(is_floors((((0, thing),), (), 0)), True)
                self.same(is_floors((((2, GOOD), (5, thing)), (ROW,), 3)), True)

    def refuse(self, *things):
        for thing in things:
            with self.subTest(thing=thing):
                self.same(is_floors(thing), False)
                self.same(is_floors((((0, thing),), (), 0)), False)
                self.same(is_floors((((2, GOOD), (5, thing)), (ROW,), 3)), False)
                self.same(is_floors((((2, ((), (), 0)), (5, (((0, thing),), (), 1))), (ROW,), 3)), False)

    def rows(self, call, *rows):
        for row in rows:
            call(((), (row,), 0), ((), (ROW, row), 0), ((), (row, ROW, row), 0))

    def test_triples(self):
        self.let(GOOD, ((), (), 0), ((), (ROW,) * 3, 7))
        self.refuse(*helper.ODD_VALUES)
        self.refuse(list(GOOD), GOOD[:2], GOOD + (0,), GOOD[:1], (GOOD,), ([], (), 0), ((), [], 0), (None, (), 0), ((), None, 0), ("", (), 0),
                    ((), "", 0), (0, (), 0), ((), 0, 0), ((), (ROW, None), 0), ((), ((),), 0), ((), (0,), 0), ((), ROW, 0), ((), "made", 0))

    def test_numbers(self):
        for number in NUMBERS:
            self.let(((), (), number))
            self.rows(self.let, ("made", AT, (), number), ("all", AT, (), number), ("give", (), (), number))
        for number in NO_NUMBERS:
            self.refuse(((), (), number))
            self.rows(self.refuse, ("made", AT, (), number), ("all", AT, (), number), ("give", (), (), number))

    def test_rows(self):
        self.rows(self.let, ROW, ("all",) + ROW[1:], ("give", (), (), 7))
        self.rows(self.refuse, list(ROW), ROW[:3], ROW + (0,), ROW[1:], ROW[:1], (), ("made",), "made", None, ("", AT, (), 7), ("Made", AT, (), 7),
                  ("alls", AT, (), 7), (None, AT, (), 7), (0, AT, (), 7), (True, AT, (), 7), (("made",), AT, (), 7), ("side", AT, (), 7),
                  ("give", AT, (), 7), ("give", ("side", 0), (), 7), ("give", None, (), 7), ("give", [], (), 7), ("give", ((),), (), 7),
                  ("give", "", (), 7), ("give", 0, (), 7), ("give", False, (), 7), (["made"], AT, (), 7))

    def test_states(self):
        for kind in ("made", "all"):
            self.rows(self.let, *[(kind, state, (), 7) for state in STATES])
            self.rows(self.refuse, *[(kind, state, (), 7) for state in NO_STATES])
        self.rows(self.refuse, *[("give", state, (), 7) for state in STATES + [one for one in NO_STATES if one != () or one is False]])

    def test_orders(self):
        for kind, state in (("made", AT), ("all", ("side", 1)), ("give", ())):
            self.rows(self.let, *[(kind, state, order, 7) for order in ORDERS])
            self.rows(self.refuse, *[(kind, state, order, 7) for order in NO_ORDERS])

    def test_inner(self):
        small = ((), (), 0)
        self.let((((0, small),), (), 0), (((0, small), (1, GOOD), (10 ** 59, small)), (), 0))
        for inner in ([], [(0, small)], ((0, small), (0, small)), ((1, small), (0, small)), ((True, small),), ((False, small), (1, small)), ((-1, small),),
                      ((None, small),), (("0", small),), ((0,),), ((0, small, 0),), ([0, small],), (0,), (small,), ((0, list(small)),), (0, small),
                      ((0, None),), ((0, ((), (), -1)),), ((0, ((), (("give", (), (), True),), 0)),), None, "", 0):
            self.refuse((inner, (), 0))
        deep = small
        for _ in range(9):
            deep = (((0, deep),), (ROW,), 0)
        self.let(deep)
        deep = ((), (), True)
        for _ in range(9):
            deep = (((0, deep),), (ROW,), 0)
        self.refuse(deep)

    def test_found(self):
        for _, block in helper.chance_blocks(731, 40):
            self.same(is_floors(least(block, ()).floors), True)

    def test_any_value(self):
        """Any value in any place of good ones."""
        chance = random.Random(73)

        def changed(thing):
            if not isinstance(thing, tuple) or thing == () or chance.random() < 0.2:
                return chance.choice(helper.ODD_VALUES + (-1, True, "made", (0, 0)))
            at = chance.randrange(len(thing))
            return thing[:at] + (changed(thing[at]),) + thing[at + 1:]

        for _ in range(2000):
            thing = changed(((((3, GOOD),), GOOD[1], 5)))
            self.assertIn(is_floors(thing), (True, False))
            self.assertIs(type(is_floors(thing)), bool)


if __name__ == "__main__":
    unittest.main()
