"""[54] [55] Bookings, and which values are bookings."""

import copy
import itertools
import random
import unittest

import helper
import slow
from leastplans.bookchecks import booked, booking_fits
from leastplans.bookings import booking
from leastplans.ceilings import ceiling
from leastplans.states import all_states, seen

SUMS = "select t.a, sum (t.b) as x, count (*) as n from t join s on t.a = s.a group by t.a"
STATE = (((0,), 0), ((1,), 1))
FIRST = (((0,), 0), (), 1000, ("rows", 1000))
PAPER = (FIRST, (((1,), 1), (0,), 1, ("apart", 1)))


def every_booking(block, state, marks):
    """All bookings, by trying each sequence and each reason."""
    parts = [part for part in state if part[1] or block.units[part[0][0]].kind in ("core", "left")]
    found = []
    for sequence in itertools.permutations(parts):
        found.extend(bookings_in(block, sequence, marks))
    return found


def bookings_in(block, sequence, marks):
    lines = []
    for at, part in enumerate(sequence):
        before = slow.seen(block, sequence[:at]) if at else set()
        if not part[1] and not set(block.units[part[0][0]].need) <= before:
            return []
        known = set(marks) | {mark for mark, _ in block.fixed} | before
        lines.append([(part, tuple(sorted(known)), factor, reason)
                      for factor, reason in reasons(block, part, set(marks), known)])
    return list(itertools.product(*lines))


def reasons(block, part, marks, known):
    units, flag = part
    if flag:
        own = slow.kept(block, units)
        apart = 1
        for mark in own - known:
            apart *= min(slow.dists(block, units, mark))
        found = [(apart, ("apart", apart))]
        as_is = tuple(((u,), 0) for u in units)
        for paper in every_booking(block, as_is, tuple(own & known)):
            product = 1
            for _, _, factor, _ in paper:
                product *= factor
            found.append((product, ("within", paper)))
        return found
    u = units[0]
    unit = block.units[u]
    let = known if unit.kind == "core" else (
        marks | slow.bound(block, u) | {b for a, b in slow.pairs(block, u) if a in known})
    places = [place for place, mark in unit.cols if mark in let]
    if isinstance(unit.source, str):
        found = []
        for fact in unit.told:
            if fact[0] == "rows":
                found.append((fact[1], fact))
            elif fact[0] in ("key", "fan") and set(fact[1]) <= set(places):
                found.append((1 if fact[0] == "key" else fact[2], fact))
    else:
        number = slow.fan(block, u, places)
        found = [(number, ("block", number))]
    return [(max(1, number) if unit.kind == "left" else number, reason) for number, reason in found]


def changes(thing):
    """Values near a paper: one thing in it is other, missing, doubled, or of another kind."""
    if isinstance(thing, tuple):
        yield list(thing)
        for at, one in enumerate(thing):
            yield thing[:at] + thing[at + 1:]
            yield thing[:at] + (one,) + thing[at:]
            for other in changes(one):
                yield thing[:at] + (other,) + thing[at + 1:]
        for at in range(len(thing) - 1):
            yield thing[:at] + (thing[at + 1], thing[at]) + thing[at + 2:]
        yield thing + (0,)
    elif isinstance(thing, int):
        yield thing + 1
        yield thing - 1
        yield None
        yield str(thing)
        if thing in (0, 1):
            yield bool(thing)
    else:
        yield thing + "s"
        yield 1
        for word in ("rows", "key", "fan", "block", "apart", "within"):
            if word != thing:
                yield word


class BookingTest(helper.Case):

    def setUp(self):
        self.block = helper.block(helper.shop(), SUMS)

    def test_document(self):
        self.same(booking(block=self.block, state=STATE, marks=()), PAPER)
        self.same(booking(self.block, STATE, ()), PAPER)

    def test_product(self):
        """A booking fits, and its product is the ceiling."""
        chance = random.Random(54)
        words = {}
        for _, block in helper.chance_blocks(541, 100):
            for state in all_states(block):
                marks = tuple(mark for mark in seen(block, state) if chance.random() < 0.4)
                shuffled = list(marks + marks)
                chance.shuffle(shuffled)
                for asked in (marks, tuple(shuffled)):
                    paper = booking(block, state, asked)
                    self.same(booked(paper), ceiling(block, state, marks))
                    self.same(booking_fits(block, state, asked, paper), True)
                for _, _, _, reason in paper:
                    words[reason[0]] = True
        self.same(sorted(words), ["apart", "block", "fan", "key", "rows", "within"])

    def test_left(self):
        """1 where a fact would give 0; the reason tells the fact as it is."""
        house = helper.shop()
        house.retell("s", (("rows", 0),))
        block = helper.block(house, "select t.a from t left join s on s.a = t.a")
        state = (((0,), 0), ((1,), 0))
        paper = (FIRST, (((1,), 0), (0,), 1, ("rows", 0)))
        self.same(booking(block, state, ()), paper)
        self.same(booking_fits(block, state, (), paper), True)
        for factor, reason in ((0, ("rows", 0)), (1, ("rows", 1)), (True, ("rows", 0)), (1, ("rows", False))):
            self.same(booking_fits(block, state, (), (FIRST, (((1,), 0), (0,), factor, reason))), False)
        # a left unit stands behind its need, even where its need is among the marks
        self.same(booking_fits(block, state, (0,), (
            (((1,), 0), (0,), 1, ("rows", 0)), (((0,), 0), (0, 1), 1000, ("rows", 1000)))), False)
        block = helper.block(house, "select t.a from t left join (select s.a from s limit 0) u on u.a = t.a")
        self.same(booking(block, state, ()), (FIRST, (((1,), 0), (0,), 1, ("block", 0))))


    def test_left_ahead_of_core(self):
        """A core unit behind a left one may bear its need; it goes first."""
        block = helper.block(helper.store(), "select t.x from t left join s on s.a = t.a join p on p.k = t.a")
        self.same([unit.kind for unit in block.units], ["core", "left", "core"])
        left, core = ((1,), 0), ((2,), 0)
        paper = booking(block, (left, core), ())
        self.same([line[0] for line in paper], [core, left])
        self.same(booking_fits(block, (left, core), (), paper), True)
        self.same(booking_fits(block, (left, core), (0,), (
            (left, (0,), 100, ("rows", 100)), (core, (0, 3), 1, ("key", (0,))))), False)
        block = helper.block(helper.store(), "select count (*) as n from t left join s on s.a = t.a join p on p.k = t.a")
        squeezed = ((1, 2), 1)
        self.same(booking(block, (squeezed,), ()), ((squeezed, (), 100, ("apart", 100)),))
        self.same(booked(booking(block, (((0,), 0), squeezed), ())), 100)


class FitsTest(helper.Case):

    def setUp(self):
        self.block = helper.block(helper.shop(), SUMS)

    def fits(self, paper, wanted, marks=()):
        self.same(booking_fits(block=self.block, state=STATE, marks=marks, paper=paper), wanted)

    def test_told(self):
        self.fits(PAPER, True)
        # those that are not the least fit, too
        self.fits(((((1,), 1), (), 10, ("apart", 10)), (((0,), 0), (0,), 1000, ("rows", 1000))), True)
        inner = ((((1,), 0), (0,), 1000, ("rows", 1000)),)
        self.fits((FIRST, (((1,), 1), (0,), 1000, ("within", inner))), True)
        self.same(booked(paper=(FIRST, (((1,), 1), (0,), 1000, ("within", inner)))), 1000000)
        self.same(booked(()), 1)
        # the known marks of within are those of the paper
        self.fits((FIRST, (((1,), 1), (0,), 1000, ("within", ((((1,), 0), (), 1000, ("rows", 1000)),)))), False)
        self.fits((FIRST, (((1,), 1), (0,), 999, ("within", inner))), False)
        self.fits((FIRST, (((1,), 1), (0,), 1, ("within", ()))), False)

    def test_odd_values(self):
        for odd in helper.ODD_VALUES + (PAPER[:1], PAPER[1:], PAPER[::-1], PAPER + PAPER[1:], list(PAPER), (PAPER,)):
            self.fits(odd, False)
            for at in range(2):
                self.fits(PAPER[:at] + (odd,) + PAPER[at + 1:], False)
                for place in range(4):
                    line = PAPER[at][:place] + (odd,) + PAPER[at][place + 1:]
                    if helper.kinds(line) != helper.kinds(PAPER[at]):
                        self.fits(PAPER[:at] + (line,) + PAPER[at + 1:], False)
            self.fits((FIRST, (((1,), 1), (0,), 1, ("within", odd))), False)
        deep = ()
        for _ in range(30):
            deep = (deep,)
        self.fits(deep, False)
        self.fits((FIRST, (((1,), 1), (0,), 1, ("within", deep))), False)

    def test_facts(self):
        """A reason is one of the told facts as it is placed, with all its places asked for."""
        house = helper.shop()
        house.retell("s", (("rows", 50), ("fan", ("c", "a"), 9), ("key", ("a",)), ("fan", ("a",), 3), ("dist", "a", 2),
                           ("lies", ("a",))))
        block = helper.block(house, "select t.a, s.c from t, s where t.a = s.a")
        state = (((0,), 0), ((1,), 0))

        def fits(factor, reason, marks=()):
            known = tuple(sorted({0} | set(marks)))
            first = (((0,), 0), tuple(sorted(marks)), 1000, ("rows", 1000))
            return booking_fits(block, state, marks, (first, (((1,), 0), known, factor, reason)))

        self.same([unit.cols for unit in block.units], [((0, 0),), ((0, 0), (1, 2))])
        for factor, reason, marks, wanted in [
            (50, ("rows", 50), (), True), (1, ("key", (0,)), (), True), (3, ("fan", (0,), 3), (), True),
            (9, ("fan", (1, 0), 9), (), False), (9, ("fan", (1, 0), 9), (2,), True), (9, ("fan", (0, 1), 9), (2,), False),
            (1, ("fan", (0,), 1), (), False), (2, ("dist", 0, 2), (), False), (1, ("fan", (0,), 3), (), False),
            (1, ("key", (1,)), (2,), False), (50, ("rows", 1000), (), False), (1, ("lies", (0,)), (), False),
            (1, ("apart", 1), (), False), (50, ("block", 50), (), False), (1, ("key", [0]), (), False),
            (True, ("key", (0,)), (), False), (1, ("key", (False,)), (), False), (1, ["key", (0,)], (), False),
        ]:
            with self.subTest(factor=factor, reason=reason, marks=marks):
                self.same(fits(factor, reason, marks), wanted)

    def test_one_thing_changed(self):
        """Just those changed papers fit that are bookings."""
        chance = random.Random(55)
        many = 0
        for _, block in helper.chance_blocks(551, 40):
            for state in chance.sample(all_states(block), min(6, len(all_states(block)))):
                marks = tuple(mark for mark in seen(block, state) if chance.random() < 0.4)
                let = every_booking(block, state, marks)
                told = [helper.kinds(paper) for paper in let]
                for paper in chance.sample(let, min(4, len(let))):
                    self.same(booking_fits(block, state, marks[::-1] + marks, paper), True)
                    self.assertGreaterEqual(booked(paper), ceiling(block, state, marks))
                    others = list(changes(paper))
                    for other in chance.sample(others, min(40, len(others))):
                        before = copy.deepcopy(other)
                        self.same(booking_fits(block, state, marks, other), helper.kinds(other) in told)
                        self.same(other, before)
                        many += 1
        self.assertGreater(many, 3000)


if __name__ == "__main__":
    unittest.main()
