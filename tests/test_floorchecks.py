"""[74] [75] [76] Floors: whether they fit, and what they tell."""

import itertools
import random
import unittest

import drawnplans
import helper
from leastplans.ceilings import Ceilings
from leastplans.choosing import least
from leastplans.floorchecks import floors_fit
from leastplans.floorreads import floor_of, give_floor
from leastplans.judging import judged, judged_top
from leastplans.leafsteps import inner_told
from leastplans.leafways import leaf_ways
from leastplans.states import all_states
from leastplans.stepways import gives_over, over_one, over_two, sorts_over
from slowplans import WORDS

SUMS = "select t.a, sum (t.b) as x, count (*) as n from t join s on t.a = s.a group by t.a"
T, AT, BOTH = (((0,), 0),), (((0,), 1),), (((0, 1), 1),)


def slow_clauses(block, floors, barred):
    """(word, rows asked for) clause by clause, each pair of rows by itself."""
    sizes = Ceilings(block)
    inner, rows, _ = floors
    made = [row for row in rows if row[0] == "made"]
    every = [row for row in rows if row[0] == "all"]
    leaf = [("made", state, order, price) for _, state, order, price in leaf_ways(sizes, barred)]
    for u, below in inner:
        for kind, _, order, number in below[1]:
            if kind == "give":
                state, marks, price = inner_told(sizes, u, order)
                leaf.append(("made", state, marks, number + price))
    yield "leaf", leaf
    yield "all", [("all",) + row[1:] for row in made]
    yield "sort", [("all", state, order, row[3] + price) for row in made
                   for _, state, order, price in sorts_over(sizes, row[1:3], barred)]
    yield "join", [("made", state, order, one[3] + other[3] + price) for one, other in itertools.product(every, repeat=2)
                   for _, state, order, price in over_two(sizes, one[1:3], other[1:3], barred)]
    told = [(step[0], ("made", state, order, row[3] + price)) for row in every
            for step, state, order, price in over_one(sizes, row[1:3], barred)]
    yield "look", [row for word, row in told if word == "look"]
    yield "squeeze", [row for word, row in told if word != "look"]
    yield "give", [("give", (), order, row[3] + price) for row in every for _, order, price in gives_over(sizes, row[1:3])]


def missing(floors, asked):
    return [row for row in asked
            if not any(one[:3] == row[:3] and one[3] <= row[3] for one in floors[1])]


def slow_fit(block, floors, barred):
    """(word, all that what may be), (None, None) if the floors fit; they are of the form."""
    for u, below in floors[0]:
        word, whats = slow_fit(block.units[u].source, below, barred)
        if word is not None:
            return "inner", [(u, (word, what)) for what in whats]
    for word, asked in slow_clauses(block, floors, barred):
        rows = missing(floors, asked)
        if rows:
            return word, rows
    gives = [row[3] for row in floors[1] if row[0] == "give"]
    if not gives or min(gives) != floors[2]:
        return "root", [None]
    return None, None


def put(floors, at, row):
    """Floors with a row at a place changed; left out if it is None."""
    inner, rows, price = floors
    return (inner, rows[:at] + (() if row is None else (row,)) + rows[at + 1:], price)


def zeros(floors):
    return (tuple((u, zeros(below)) for u, below in floors[0]), tuple(row[:3] + (0,) for row in floors[1]), 0)


def no_prices(row, more):
    return row[:3] + (row[3] + more,)


def looked_up():
    """A house like SHOP, in which to look up rows of s for each of t costs less than to join."""
    house = helper.shop()
    house.add_index("s", "bya", ("a",))
    house.retell("t", (("rows", 3), ("dist", "a", 2)))
    house.retell("s", (("rows", 1000), ("fan", ("a",), 2)))
    return house


class FitTest(helper.Case):

    def fit(self, block, floors, barred=()):
        self.same(floors_fit(block=block, floors=floors, barred=barred), None)
        self.same(floors_fit(block, floors, barred), None)

    def broken(self, block, floors, word, *whats, barred=()):
        """The clause word is broken, and told with one of whats."""
        found = floors_fit(block, floors, barred)
        self.assertIs(type(found), tuple)
        self.assertEqual((found[0], len(found)), (word, 2))
        self.assertIn(helper.kinds(found[1]), [helper.kinds(what) for what in whats])

    def test_document(self):
        one = helper.block(helper.shop(), "select t.a from t")
        rows = (("made", T, (), 1000), ("all", T, (), 1000), ("give", (), (), 2000))
        self.fit(one, ((), rows, 2000))
        self.same(floors_fit(one, ((), rows[1:], 2000), ()), ("leaf", ("made", T, (), 1000)))
        for at, word, what in [(0, "leaf", ("made", T, (), 1000)), (1, "all", ("all", T, (), 1000)), (2, "give", ("give", (), (), 2000))]:
            self.broken(one, put(((), rows, 2000), at, None), word, what)
            self.broken(one, put(((), rows, 2000), at, no_prices(rows[at], 1)), word, what)
        # a lower number asks for less, but the price must be that of the give rows
        self.broken(one, put(((), rows, 2000), 0, ("made", T, (), 3)), "all", ("all", T, (), 3))
        self.broken(one, put(((), rows, 2000), 1, ("all", T, (), 3)), "give", ("give", (), (), 1003))
        self.broken(one, put(((), rows, 2000), 2, ("give", (), (), 1999)), "root", None)
        self.fit(one, ((), rows[:2] + (("give", (), (), 1999),), 1999))
        self.fit(one, ((), rows + (("give", (), (), 1999),), 1999))
        self.fit(one, ((), rows + (("give", (), (), 2001),), 2000))
        self.broken(one, ((), rows, 1999), "root", None)
        self.broken(one, ((), rows, 2001), "root", None)
        self.broken(one, ((), rows[:2], 2000), "give", ("give", (), (), 2000))

    def test_form(self):
        block = helper.block(helper.shop(), "select t.a, s.c from t left join s on s.a = t.a")
        _, rows, price = least(block, ()).floors
        self.fit(block, ((), rows, price))
        both, side = (((0,), 0), ((1,), 0)), ("side", 1)
        # t.a 0, s.a 1, s.c 2
        for kind, state, order in [
            ("made", ("side", 0), ()), ("made", ("side", 2), ()), ("all", ("side", 7), ()), ("made", (((1,), 0),), ()), ("all", AT, ()),
            ("all", (((0, 1), 1),), ()), ("made", (((0,), 0), ((1,), 1)), ()), ("all", (((2,), 0),), ()), ("made", (((0,), 0), ((2,), 0)), ()),
            ("all", T, (1,)), ("made", T, (0, 2)), ("made", T, (3,)), ("all", side, (0,)), ("made", side, (1, 0)), ("all", both, (0, 3)),
            ("give", (), (2,)), ("give", (), (0, 5)), ("give", (), (10 ** 59,)),
        ]:
            with self.subTest(kind=kind, state=state, order=order):
                self.same(floors_fit(block, ((), rows + ((kind, state, order, 10 ** 59),), price), ()), ("form", None))
        for inner in (((0, ((), (), 0)),), ((1, ((), (), 0)),), ((7, ((), (), 0)),)):
            self.same(floors_fit(block, (inner, rows, price), ()), ("form", None))
        for kind, state, order in [("made", T, (0,)), ("all", side, (2, 1)), ("all", both, (2, 0, 1)), ("give", (), (1, 0))]:
            self.assertNotEqual(floors_fit(block, ((), rows + ((kind, state, order, 0),), price), ())[:1], ("form",))
        # squeezed parts that are no states
        block = helper.block(helper.shop(), SUMS)
        floors = least(block, ()).floors
        for state in ((((0,), 0), ((1,), 1)), (((0,), 1), ((1,), 1)), (((0, 1), 1),)):
            self.assertNotEqual(floors_fit(block, put(floors, len(floors[1]), ("made", state, (), 10 ** 59)), ()), ("form", None))
        self.same(floors_fit(block, put(floors, len(floors[1]), ("made", (((0, 2), 1),), (), 10 ** 59)), ()), ("form", None))

    def test_any_value(self):
        block = helper.block(helper.shop(), "select t.a from t")
        for odd in helper.ODD_VALUES:
            for floors in (odd, (odd, (), 0), ((), odd, 0), ((), (odd,), 0), ((), (("made", odd, (), 0),), 0), ((), (("made", T, odd, 0),), 0),
                           ((), (("made", T, (), odd),), 0), ((), (("give", (), (), 0), odd), 0)):
                found = floors_fit(block, floors, ())
                self.assertIn(found, [("form", None), ("leaf", ("made", T, (), 1000)), ("all", ("all", T, (), found[1] and found[1][3]))])
        for floors in (least(block, ()).floors[:2] + (True,), list(least(block, ()).floors)):
            self.same(floors_fit(block, floors, ()), ("form", None))
        # True is no number, 1 is
        rows = (("made", T, (), 1), ("all", T, (), 1), ("give", (), (), 1))
        self.fit(block, ((), rows, 1))
        self.same(floors_fit(block, ((), rows, True), ()), ("form", None))
        self.same(floors_fit(block, ((), (("made", T, (), True),) + rows[1:], 1), ()), ("form", None))

    def test_each_clause(self):
        """Each row of the floors left out, or raised: what is told is the first clause that asks for it."""
        block = helper.block(looked_up(), SUMS)
        floors = least(block, ()).floors
        words = set()
        for at, row in enumerate(floors[1]):
            for changed in (put(floors, at, None), put(floors, at, no_prices(row, 1))):
                word, whats = slow_fit(block, changed, ())
                self.broken(block, changed, word, *whats)
                self.assertIn(row[:3], [what[:3] for what in whats])
                words.add(word)
        self.same(words, {"leaf", "all", "sort", "join", "look", "squeeze", "give"})
        self.broken(block, floors[:2] + (floors[2] - 1,), "root", None)

    def test_which_comes_first(self):
        """Where several clauses are broken, the first one is told."""
        block = helper.block(looked_up(), SUMS)
        inner, rows, price = least(block, ()).floors
        sequence = ["leaf", "all", "sort", "join", "look", "squeeze", "give", "root"]
        first = {}
        for at, row in enumerate(rows):
            first.setdefault(slow_fit(block, put((inner, rows, price), at, no_prices(row, 1)), ())[0], row)
        self.same(sorted(first), sorted(sequence[:-1]))
        chance = random.Random(74)
        told = set()
        for _ in range(80):
            words = chance.sample(sequence, chance.choice((1, 2, 3)))
            raised = tuple(no_prices(row, 1) if row in [first.get(word) for word in words] else row for row in rows)
            changed = (inner, raised, price + 1 if "root" in words else price)
            word, whats = slow_fit(block, changed, ())
            told.add(word)
            self.broken(block, changed, word, *whats)
            self.same(floors_fit(block, (inner, raised + (("made", T, (9,), 0),), price), ()), ("form", None))
        self.same(told, set(sequence))

    def test_what_is_least(self):
        """Each of several reasons for one row: the greatest number that fits is that of the least one."""
        block = helper.block(helper.shop(), SUMS)
        floors = least(block, ()).floors
        at = [row[:3] for row in floors[1]].index(("all", AT, (0,)))
        self.same(floors[1][at][3], 3050)
        self.broken(block, put(floors, at, ("all", AT, (0,), 3051)), "sort", ("all", AT, (0,), 3050))
        self.broken(block, put(floors, at, ("all", AT, (0,), 13000)), "sort", ("all", AT, (0,), 3050))
        self.broken(block, put(floors, at, ("all", AT, (0,), 13001)), "all", ("all", AT, (0,), 13000))

    def test_found(self):
        """The floors of least fit, with more words barred, too; raised or shortened they do not."""
        for chance, house, block in drawnplans.told_houses(741, 1, (0,)):
            barred = tuple(word for word in WORDS if chance.random() < 0.15)
            found = least(block, barred)
            self.fit(block, found.floors, barred)
            more = barred + tuple(word for word in WORDS if word not in barred and chance.random() < 0.5)
            self.fit(block, found.floors, more)
            self.fit(block, zeros(found.floors), barred)
            many = len(found.floors[1])
            for at in chance.sample(range(many), min(many, 8)):
                for row in (None, no_prices(found.floors[1][at], 1), no_prices(found.floors[1][at], 10 ** 20)):
                    changed = put(found.floors, at, row)
                    if many > 150:
                        self.assertIsNotNone(floors_fit(block, changed, barred))
                        continue
                    word, whats = slow_fit(block, changed, barred)
                    self.assertIsNotNone(word)
                    self.broken(block, changed, word, *whats, barred=barred)
            for step in (-1, 1):
                self.broken(block, found.floors[:2] + (found.price + step,), "root", None, barred=barred)

    def test_every_row_is_asked_for(self):
        for _, _, block in itertools.islice(drawnplans.told_houses(742, 1, (0,)), 0, None, 3):
            found = least(block, ())
            if len(found.floors[1]) > 100:
                continue
            for at, row in enumerate(found.floors[1]):
                self.assertIsNotNone(floors_fit(block, put(found.floors, at, None), ()))
                self.assertIsNotNone(floors_fit(block, put(found.floors, at, no_prices(row, 1)), ()))

    def test_several_raised(self):
        chance = random.Random(743)
        for _, _, block in drawnplans.told_houses(744, 1, (0,)):
            inner, rows, price = least(block, ()).floors
            raised = tuple(no_prices(row, chance.choice((0, 1, 5))) for row in rows)
            if raised != rows:
                gives = min(row[3] for row in raised if row[0] == "give")
                self.assertIsNotNone(floors_fit(block, (inner, raised, gives), ()))
                self.assertIsNotNone(floors_fit(block, (inner, raised, price), ()))
            left = tuple(row for row in rows if chance.random() < 0.9)
            if left != rows:
                self.assertIsNotNone(floors_fit(block, (inner, left, price), ()))

    def test_lowered(self):
        """Lower numbers by chance: what is told is what the slow way tells."""
        fitting = 0
        for chance, _, block in drawnplans.told_houses(745, 2, (0,)):
            floors = least(block, ()).floors
            if len(floors[1]) > 150:
                continue
            for _ in range(3):
                rows = [row[:3] + (chance.choice((row[3], row[3], max(row[3] - chance.choice((1, 4)), 0), 0)),) for row in floors[1]]
                if chance.random() < 0.3:
                    rows = [chance.choice((row, row, row, no_prices(row, chance.choice((-row[3], 2))))) for row in floors[1]]
                price = min([row[3] for row in rows if row[0] == "give"])
                word, whats = slow_fit(block, (floors[0], tuple(rows), price), ())
                fitting += word is None
                if word is None:
                    self.fit(block, (floors[0], tuple(rows), price))
                else:
                    self.broken(block, (floors[0], tuple(rows), price), word, *whats)

    def test_other_orders(self):
        """Rows with orders and states that no plan has ask, too."""
        block = helper.block(helper.store(), "select t.a, t.b, s.c from t, s where t.a = s.a and t.b = s.c")
        inner, rows, price = least(block, ()).floors
        other = ("all", T, (1, 0), 0)
        word, whats = slow_fit(block, (inner, rows + (other,), price), ())
        self.same(word, "join")
        self.broken(block, (inner, rows + (other,), price), word, *whats)
        other = ("made", (((0,), 0), ((1,), 0)), (1,), 5)
        self.broken(block, (inner, rows + (other,), price), "all", ("all",) + other[1:])
        inner_text = "select u.a, u.n from (select t.a, count (*) as n from t group by t.a) u where u.n > 1"
        block = helper.block(helper.store(), inner_text)
        floors = least(block, ()).floors
        below = floors[0][0][1]
        more = (((0, (below[0], below[1] + (("give", (), (1, 0), 10 ** 9),), below[2])),), floors[1], floors[2])
        n, a = dict(block.units[0].cols)[1], dict(block.units[0].cols)[0]
        self.broken(block, more, "leaf", ("made", T, (n, a), 10 ** 9 + 100))

    def test_sequence(self):
        """The sequence of the rows does not matter, nor do several of one kind, state and order."""
        chance = random.Random(746)
        for _, _, block in drawnplans.told_houses(747, 1, (0,)):
            inner, rows, price = least(block, ()).floors
            mixed = list(rows) + [no_prices(row, chance.choice((0, 1, 9))) for row in rows if chance.random() < 0.5]
            chance.shuffle(mixed)
            self.fit(block, (inner, tuple(mixed), price))
            at = chance.randrange(len(rows))
            raised = [no_prices(row, 1) if row == rows[at] else row for row in mixed]
            self.assertIsNotNone(floors_fit(block, (inner, tuple(raised), price), ()))

    def test_inner(self):
        text = ("select u.n, p.k from (select t.a, count (*) as n from t group by t.a) u, p "
                "where u.a = p.k and p.k in (select w.a from (select s.a from s limit 3) w limit 2)")
        block = helper.block(helper.store(), text)
        floors = least(block, ()).floors
        self.fit(block, floors)
        units = [u for u, _ in floors[0]]
        self.same(len(units), 2)
        for at, (u, below) in enumerate(floors[0]):
            own = block.units[u].source
            others = [put(below, place, None) for place in range(len(below[1]))]
            others += [put(below, place, no_prices(row, 1)) for place, row in enumerate(below[1])]
            others += [below[:2] + (below[2] + 1,), ((), (), 0), below[:1] + (below[1] + (("give", (), (9,), 0),),) + below[2:]]
            others += [(((0, ((), (), 0)),),) + below[1:]]
            for other in others:
                wanted = floors_fit(own, other, ())
                self.assertIsNotNone(wanted)
                changed = (floors[0][:at] + ((u, other),) + floors[0][at + 1:],) + floors[1:]
                self.same(floors_fit(block, changed, ()), ("inner", (u, wanted)))
                # inner goes ahead of all other clauses but the form
                self.same(floors_fit(block, (changed[0], (), 7), ()), ("inner", (u, wanted)))
                self.same(floors_fit(block, changed[:1] + (changed[1] + (("made", (((9,), 0),), (), 0),), 7), ()), ("form", None))
        # the first such u
        bad = tuple((u, below[:2] + (below[2] + 1,)) for u, below in floors[0])
        self.same(floors_fit(block, (bad,) + floors[1:], ()), ("inner", (units[0], ("root", None))))
        # deeper ones
        u, below = floors[0][1]
        deeper = (((0, below[0][0][1][:2] + (0,)),),) + below[1:]
        self.same(floors_fit(block, ((floors[0][0], (u, deeper)),) + floors[1:], ()), ("inner", (u, ("inner", (0, ("root", None))))))
        # lower inner gives ask for more outside
        lower = zeros(below)
        word, whats = slow_fit(block, ((floors[0][0], (u, lower)),) + floors[1:], ())
        self.same(word, "leaf")
        self.broken(block, ((floors[0][0], (u, lower)),) + floors[1:], word, *whats)
        for inner in (floors[0][:1], floors[0][1:], (), floors[0] + ((9, below),), ((0, below), floors[0][0])):
            self.same(floors_fit(block, (inner,) + floors[1:], ())[0], "form")
        # with barred words, inside, too
        for barred in (("early",), ("sort", "hash"), WORDS):
            found = least(block, barred)
            self.fit(block, found.floors, barred)
            if found.price > floors[2]:
                self.assertIsNotNone(floors_fit(block, found.floors, ()))

    def test_prices(self):
        """Floors with a price p that fit exist exactly if p is not above the least price."""
        for _, _, block in itertools.islice(drawnplans.told_houses(748, 1, (0,)), 0, None, 4):
            found = least(block, ())
            inner, rows, price = found.floors
            for lower in {0, price // 2, max(price - 1, 0), price}:
                gives = tuple(row if row[0] != "give" else row[:3] + (min(row[3], lower),) for row in rows)
                self.fit(block, (inner, gives, lower))
            for above in (price + 1, price + 1000):
                gives = tuple(row if row[0] != "give" else row[:3] + (max(row[3], above),) for row in rows)
                self.assertIsNotNone(floors_fit(block, (inner, gives, above), ()))

    def test_barred(self):
        """Floors that fit with some barred words fit with more, not always with fewer."""
        block = helper.block(helper.shop(), SUMS)
        one, other = least(block, ("early",)), least(block, ())
        self.fit(block, one.floors, ("early",))
        self.fit(block, one.floors, ("early", "sort"))
        self.assertIsNotNone(floors_fit(block, one.floors, ()))
        self.assertIsNotNone(floors_fit(block, least(block, ("hash",)).floors, ("merge",)))
        for word in WORDS:
            self.fit(block, other.floors, (word,))


class ReadTest(helper.Case):

    ROWS = (("made", AT, (), 1), ("all", AT, (), 9), ("all", AT, (0,), 4), ("all", AT, (), 5), ("all", T, (), 7), ("all", ("side", 1), (2,), 0),
            ("give", (), (), 6), ("give", (), (1, 0), 8), ("give", (), (), 3), ("all", AT, (), 7), ("give", (), (1, 0), 8))
    FLOORS = (((0, ((), (("all", BOTH, (), 2), ("give", (), (7,), 2)), 3)),), ROWS, 3)

    def test_floor_of(self):
        for state, order, wanted in [
            (AT, (), 5), (AT, (0,), 4), (AT, (1,), None), (T, (), 7), (T, (0,), None), (("side", 1), (2,), 0), (("side", 1), (), None),
            (("side", 2), (2,), None), (BOTH, (), None), (AT, (0, 1), None),
        ]:
            self.same(floor_of(floors=self.FLOORS, state=state, order=order), wanted)
            self.same(floor_of(self.FLOORS, state, order), wanted)

    def test_give_floor(self):
        for order, wanted in [((), 3), ((1, 0), 8), ((0, 1), None), ((1,), None), ((7,), None)]:
            self.same(give_floor(floors=self.FLOORS, order=order), wanted)
            self.same(give_floor(self.FLOORS, order), wanted)
        self.same((floor_of(((), (), 0), AT, ()), give_floor(((), (), 0), ())), (None, None))

    def test_consequences(self):
        """Floors that fit are at most the price of each plan and top; each state and order has a row."""
        for chance, _, block in drawnplans.told_houses(751, 1, (0,)):
            barred = tuple(word for word in WORDS if chance.random() < 0.15)
            for floors in (least(block, barred).floors, least(block, ()).floors):
                drawn = drawnplans.Drawn(chance, block, 25, barred)
                for plan, state, order in drawn.pool:
                    self.assertLessEqual(floor_of(floors, state, order), judged(block, plan)[2])
                for top, order in drawn.tops:
                    self.assertLessEqual(give_floor(floors, order), judged_top(block, top)[1])
                    self.assertLessEqual(floors[2], give_floor(floors, order))

    def test_all_states_have_rows(self):
        block = helper.block(helper.shop(), SUMS)
        floors = least(block, ()).floors
        for state in all_states(block):
            self.assertIsNotNone(floor_of(floors, state, ()))
        self.same(floor_of(floors, AT, (0,)), 3050)
        self.same(give_floor(floors, ()), 6070)


if __name__ == "__main__":
    unittest.main()
