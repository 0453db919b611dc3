"""[41] What truths a condition may have over nulls."""

import itertools
import random
import unittest

import helper
from helper import over
from leastplans.columnsin import columns_in, replaced
from leastplans.strictness import never_on_nulls, possible
from leastplans.worths import mark_truth

ALL = (True, True, True)
CASES = [
    ("u1.c0 = u0.c0", (False, False, True)), ("u0.c0 < u1.c5", (False, False, True)),
    ("u0.c0 + 2 * (- u1.c1) <> 3", (False, False, True)), ("u1.c0 = u1.c0", (False, False, True)),
    ("u0.c0 = u0.c1", ALL), ("1 = 1", ALL), ("u0.c1 >= u2.c0", ALL),
    ("u1.c0 is null", (True, False, False)), ("u1.c0 + u0.c0 is null", (True, False, False)),
    ("u0.c0 is null", (True, True, False)), ("1 is null", (True, True, False)),
    ("not u1.c0 = 1", (False, False, True)), ("not u1.c0 is null", (False, True, False)),
    ("u1.c0 is not null", (False, True, False)), ("not u0.c0 is null", (True, True, False)),
    ("not u0.c0 = 1", ALL),
    ("maybe u1.c0 = 1", (True, False, False)), ("maybe u1.c0 is not null", (False, True, False)),
    ("maybe u0.c0 = 1", (True, True, False)), ("maybe u1.c0 is null", (True, False, False)),
    ("not maybe u1.c0 = 1", (False, True, False)), ("maybe not u1.c0 = 1", (True, False, False)),
    ("u1.c0 = 1 and u0.c0 = 1", (False, True, True)), ("u1.c0 = 1 or u0.c0 = 1", (True, False, True)),
    ("u1.c0 = 1 and u1.c1 = 1", (False, False, True)), ("u1.c0 = 1 or u1.c1 = 1", (False, False, True)),
    ("u1.c0 is null and u0.c0 = 1", ALL), ("u1.c0 is null or u0.c0 = 1", (True, False, False)),
    ("u1.c0 is not null and u0.c0 = 1", (False, True, False)),
    ("u1.c0 is not null or u0.c0 = 1", ALL),
    ("u1.c0 is null and u1.c0 = 1", (False, False, True)),
    ("u1.c0 is not null or u1.c0 = 1", (False, False, True)),
    # each part by itself: the two sides are not seen to be the same
    ("u0.c0 = 1 and not u0.c0 = 1", ALL), ("u0.c0 is null and u0.c0 = 1", ALL),
    ("[u1.c0 = 3 or u0.c1 is null] and [u0.c0 = 1 or 1 = 2]", ALL),
    ("u1.c0 = 3 or u0.c1 is null", (True, False, True)),
    ("not [u1.c0 = 3 or u0.c1 is null]", (False, True, True)),
    ("maybe [u1.c0 = 3 and u0.c1 is null]", (True, True, False)),
]


class StrictnessTest(helper.Case):

    def test_possible(self):
        for text, wanted in CASES:
            with self.subTest(text=text):
                self.same(possible(over(text), 1), wanted)
                self.same(possible(cond=over(text), unit=1), wanted)
                self.same(never_on_nulls(cond=over(text), unit=1), not wanted[0])
                self.same(never_on_nulls(over(text), 1), not wanted[0])

    def test_other_units(self):
        self.same(possible(over("u1.c0 = u2.c0"), 2), (False, False, True))
        self.same(possible(over("u1.c0 = u2.c0"), 3), ALL)
        self.same(possible(("cmp", "=", ("col", 1, 0), ("num", 1)), 0), ALL)

    def test_long(self):
        text = " or ".join([f"u0.c{at} = 1 and u1.c{at} = 2" for at in range(20)])
        self.same(possible(over(text), 1), (False, True, True))

    def test_beside_truths(self):
        """A truth that is not possible is never met, whatever the other columns hold."""
        chance = random.Random(41)
        leaves = ["u0.c0 = u1.c0", "u0.c0 = 1", "u1.c0 is null", "u0.c0 is null", "u0.c1 < 1"]
        for _ in range(300):
            text = chance.choice(leaves)
            for _ in range(chance.randrange(4)):
                way = chance.choice(("not [{}]", "maybe [{}]", "[{}] and [{}]", "[{}] or [{}]"))
                text = way.format(text, chance.choice(leaves))
            cond = over(text)
            let = possible(cond, 1)
            for one, other in itertools.product((None, 0, 1), repeat=2):
                worth = {(0, 0): one, (0, 1): other, (1, 0): None}
                truth = mark_truth(marked(cond), {number(key): worth[key] for key in worth}, ())
                self.assertTrue(let[(True, False, None).index(truth)], text)


def number(column):
    return 10 * column[0] + column[1]


def marked(cond):
    table = {column: ("mark", number(column[1:])) for column in columns_in(cond)}
    return replaced(cond, table)


if __name__ == "__main__":
    unittest.main()
