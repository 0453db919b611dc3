"""[53] [56] Ceilings, fans and dists."""

import itertools
import random
import unittest

import helper
import slow
from helper import number_columns
from leastplans.ceilings import Ceilings, ceiling, dist_of, fan_of
from leastplans.houses import House
from leastplans.keeping import kept, marks_in, ready
from leastplans.ranks import rank
from leastplans.states import all_states, seen, whole_state
from leastplans.unitmarks import bound_of, pairs_of

SUMS = "select t.a, sum (t.b) as x, count (*) as n from t join s on t.a = s.a group by t.a"


def as_is(*units):
    return tuple(((u,), 0) for u in units)


def house_of(**tables):
    """A house of tables of numbers, each told as (columns, facts); all columns but the first are free."""
    house = House()
    for name, (names, facts) in tables.items():
        house.add_table(name, number_columns(names, names[1:]), facts)
    return house


def sides(block):
    return [("side", u) for u, unit in enumerate(block.units) if unit.kind != "core"]


class FanTest(helper.Case):

    def setUp(self):
        self.house = House()
        self.house.add_table("t", number_columns("abcd", "d"), (
            ("rows", 50), ("fan", ("b", "a"), 7), ("key", ("c", "a")), ("fan", ("d",), 9), ("dist", "b", 20),
            ("dist", "b", 6), ("dist", "c", 60), ("fan", ("d",), 8), ("lies", ("a",))))

    def block(self, text):
        return helper.block(self.house, text)

    def test_table(self):
        block = self.block("select t.a from t")
        for places, wanted in [
            ((), 50), ((0,), 50), ((1,), 50), ((0, 1), 7), ((1, 0), 7), ((3,), 8), ((0, 1, 3), 7), ((0, 2), 1),
            ((2, 0, 2), 1), ((1, 3), 8), ((0, 1, 2, 3), 1), ((2,), 50), ((1, 2, 3), 8),
        ]:
            self.same(fan_of(block=block, u=0, places=places), wanted)
        self.same([dist_of(block=block, u=0, place=place) for place in range(4)], [50, 6, 50, 50])
        self.house.retell("t", (("rows", 0), ("key", ("a",)), ("dist", "a", 3)))
        block = self.block("select t.a from t")
        self.same((fan_of(block, 0, ()), fan_of(block, 0, (0,)), dist_of(block, 0, 0)), (0, 0, 0))

    def test_block(self):
        """By the outputs that are marks; a limit bounds it, of a bare block, too."""
        text = "select u.a from (select t.b, t.a, t.b + 1 as e, t.c from t{}) u, t where u.b < t.a"
        block = self.block(text.format(" limit 40"))
        self.same(fan_of(block, 0, ()), 40)
        self.same(fan_of(block, 0, (0,)), 40)
        self.same(fan_of(block, 0, (0, 1)), 7)
        self.same(fan_of(block, 0, (1, 2, 2)), 40)
        self.same(fan_of(block, 0, (1, 3)), 1)
        self.same([dist_of(block, 0, place) for place in range(4)], [6, 40, 40, 40])
        block = self.block(text.format(" limit 5"))
        self.same([fan_of(block, 0, places) for places in ((), (0, 1), (1, 3))], [5, 5, 1])
        self.same([dist_of(block, 0, place) for place in range(4)], [5, 5, 5, 5])
        for behind, wanted in [("", 1), (" limit 1", 1), (" limit 9", 1), (" limit 0", 0)]:
            block = self.block(f"select u.n from (select count (*) as n, max (t.b) as m from t{behind}) u")
            self.same([fan_of(block, 0, places) for places in ((), (0,), (0, 1))], [wanted] * 3)
            self.same([dist_of(block, 0, place) for place in (0, 1)], [wanted] * 2)

    def test_grouped_block(self):
        block = self.block(
            "select u.b from (select t.b, t.d, t.b as e, count (*) as n from t group by t.b, t.d) u")
        # whole: the lesser of 50 rows and 6 times 50 values
        self.same([fan_of(block, 0, places) for places in ((), (0,), (1,), (0, 1), (1, 2), (3,))],
                  [50, 50, 6, 1, 1, 50])
        self.same([dist_of(block, 0, place) for place in range(4)], [6, 50, 6, 50])

    def test_block_dists(self):
        """Through all inner columns of core units, left ones more by 1."""
        house = house_of(t=("ab", (("rows", 50), ("dist", "a", 9))), s=("ac", (("rows", 40), ("dist", "a", 5))),
                         r=("ad", (("rows", 30), ("dist", "a", 3), ("key", ("a",)))))
        text = "select u.x from (select t.a as x, t.b, {} as y from t, {} limit 1000) u"
        block = helper.block(house, text.format("s.c", "s where s.a = t.a"))
        self.same([dist_of(block, 0, place) for place in range(3)], [5, 50, 40])
        block = helper.block(house, text.format("s.a", "s"))
        self.same([dist_of(block, 0, place) for place in range(3)], [9, 50, 5])
        block = helper.block(house, text.format("r.a", "s left join r on r.a = t.a"))
        self.same([dist_of(block, 0, place) for place in range(3)], [9, 50, 4])
        block = helper.block(house, text.format("r.d", "s left join r on r.a = t.a"))
        self.same([dist_of(block, 0, place) for place in range(3)], [9, 50, 31])
        block = helper.block(house, "select u.x from (select r.a as x from r left join s on s.a = r.a "
                                    "left join r q on q.a = s.a where 1 = 1 limit 2) u")
        self.same(dist_of(block, 0, 0), 2)
        # a constant, and an expression
        block = helper.block(house, "select u.x from (select 1 as x, t.a + 1 as y from t limit 1000) u")
        self.same([dist_of(block, 0, place) for place in range(2)], [50, 50])


class CeilingTest(helper.Case):

    def test_document(self):
        block = helper.block(helper.shop(), SUMS)
        state = (((0,), 0), ((1,), 1))
        self.same(ceiling(block=block, state=state, marks=()), 1000)
        self.same(ceiling(block, state, (0,)), 1000)
        sizes = [ceiling(block, one, ()) for one in all_states(block)]
        self.same(sizes, [1000, 10, 1000, 10, 1000000, 1000, 1000, 10, 10])
        self.same(ceiling(block, (((0, 1), 1),), (0,)), 1)

    def test_no_product(self):
        """A product over no marks is 1: a state squeezed to nothing has one row."""
        block = helper.block(helper.shop(), "select count (*) as n from t, s")
        self.same(ceiling(block, whole_state(block), ()), 1)
        self.same(ceiling(block, (((0,), 1), ((1,), 0)), ()), 1000)

    def test_core(self):
        house = house_of(
            t=("ab", (("rows", 100), ("fan", ("b",), 6))), s=("ac", (("rows", 80), ("key", ("a",)), ("fan", ("c",), 3))),
            r=("cd", (("rows", 60), ("fan", ("d", "c"), 2))))
        block = helper.block(house, "select t.a from t, s, r where s.a = t.b and r.d = s.c and r.c = 5")
        # t.a 0; t.b, s.a 1; s.c, r.d 3; r.c 4, fixed
        self.same([unit.cols for unit in block.units], [((0, 0), (1, 1)), ((0, 1), (1, 3)), ((0, 4), (1, 3))])
        for state, marks, wanted in [
            (as_is(0), (), 100), (as_is(0), (1,), 6), (as_is(0), (1, 0, 1), 6), (as_is(0), (0,), 100),
            (as_is(1), (1,), 1), (as_is(1), (3,), 3), (as_is(2), (), 60), (as_is(2), (3,), 2),
            # s is found by t, or t by s
            (as_is(0, 1), (), 100), (as_is(0, 1), (1,), 6), (as_is(0, 1), (3,), 18), (as_is(0, 1), (3, 1), 6),
            (as_is(0, 2), (), 6000), (as_is(0, 2), (3,), 200), (as_is(1, 2), (), 160), (as_is(1, 2), (1,), 2),
            (as_is(0, 1, 2), (), 200), (as_is(0, 1, 2), (1,), 12), (as_is(0, 1, 2), (3,), 36), (as_is(0, 1, 2), (4, 3), 36),
        ]:
            with self.subTest(state=state, marks=marks):
                self.same(ceiling(block, state, marks), wanted)
                self.same(slow.ceiling(block, state, marks), wanted)

    def test_left(self):
        house = house_of(
            t=("ab", (("rows", 100),)), s=("acd", (("rows", 80), ("fan", ("c", "a"), 3), ("fan", ("d",), 2))),
            r=("cd", (("rows", 0),)))
        block = helper.block(
            house, "select t.a from t left join s on s.a = t.b and s.c = 5 left join r on r.c = s.d and r.d > 1")
        # t.a 0, t.b 1, s.a 2, s.c 3, s.d 4, r.c 5, r.d 6
        for state, marks, wanted in [
            (as_is(0, 1), (), 300), (as_is(0, 1), (2,), 300), (as_is(0, 1), (4,), 200), (as_is(0, 1, 2), (), 300),
            (as_is(0, 1, 2), (4, 5), 200),
        ]:
            self.same(ceiling(block, state, marks), wanted)
            self.same(slow.ceiling(block, state, marks), wanted)
        # sides: what is bound counts, a pair does not; there is no least of 1
        self.same(ceiling(block, ("side", 1), ()), 80)
        self.same(ceiling(block, ("side", 1), (2,)), 3)
        self.same(ceiling(block, ("side", 1), (4, 4)), 2)
        self.same(ceiling(block, ("side", 2), ()), 0)
        # known marks of another core column, but not those of the need alone, count for a left unit
        block = helper.block(house, "select t.a from t left join s on s.a + 0 = t.b and s.c = 5")
        self.same(ceiling(block, as_is(0, 1), ()), 8000)

    def test_attachments(self):
        """Semi and anti units as they are have no factor."""
        house = house_of(t=("ab", (("rows", 100),)), s=("ac", (("rows", 80), ("key", ("a",)))))
        block = helper.block(house, "select t.a from t where t.a in (select s.a from s) and not exists "
                                    "(from s where s.c = t.b and s.a = 4)")
        for state in (as_is(0), as_is(0, 1), as_is(0, 2), as_is(0, 1, 2)):
            self.same(ceiling(block, state, ()), 100)
        self.same(ceiling(block, ("side", 1), ()), 80)
        self.same(ceiling(block, ("side", 1), (2,)), 1)
        self.same(ceiling(block, ("side", 2), ()), 1)

    def test_squeezed(self):
        """The lesser of what its units have within and of its values apart."""
        facts = (("rows", 100), ("dist", "a", 4), ("dist", "b", 30))
        house = house_of(t=("ab", facts), s=("ac", (("rows", 7), ("dist", "a", 3))))
        block = helper.block(house, "select t.b, count (*) as n from t join s on s.a = t.a left join s r on r.c = s.c "
                                    "group by t.b, r.a")
        # t.a, s.a 0; t.b 1; s.c 3; r.a 4, r.c 5
        squeezed = (((0,), 1),)
        for state, marks, wanted in [
            (squeezed, (), 100), (squeezed, (0,), 30), (squeezed, (1,), 4), (squeezed, (0, 1), 1),
            ((((1,), 1),), (), 7), ((((1,), 1),), (0,), 7), ((((1,), 1),), (0, 3), 1),
            # apart: t.a by the lesser dist of t.a and s.a
            ((((0, 1), 1),), (), 210), ((((0, 1), 1),), (1,), 7), ((((0, 1), 1),), (3,), 30),
            # of a left column one more than its dist
            ((((0, 1, 2), 1),), (), 120), ((((0, 1, 2), 1),), (1,), 4), ((((0, 1, 2), 1),), (4,), 30),
            ((((0, 1), 1), ((2,), 0)), (), 1470),
        ]:
            with self.subTest(state=state, marks=marks):
                self.same(ceiling(block, state, marks), wanted)
                self.same(slow.ceiling(block, state, marks), wanted)

    def test_within(self):
        """Within, only the known marks that are kept count."""
        house = house_of(t=("abc", (("rows", 100), ("fan", ("b",), 2), ("fan", ("c",), 3))), s=("ac", (("rows", 9),)))
        block = helper.block(house, "select t.a, count (*) as n from t, s where t.b = s.a and t.c = 5 group by t.a")
        # t.a 0; t.b, s.a 1; t.c 2, fixed and not kept
        self.same(kept(block, (0,)), (0, 1))
        self.same(ceiling(block, (((0,), 1),), ()), 3)
        self.same(ceiling(block, (((0,), 1),), (1,)), 2)
        self.same(ceiling(block, (((0,), 1), ((1,), 0)), ()), 18)
        self.same(ceiling(block, as_is(0, 1), ()), 18)

    def test_least_of_all_sequences(self):
        """Beginning with the least factor is not always best, nor is taking the least one next."""
        house = house_of(
            t=("ab", (("rows", 10),)), s=("ac", (("rows", 12), ("key", ("a",)))), r=("cd", (("rows", 11), ("fan", ("c",), 9))))
        block = helper.block(house, "select t.a from t, s, r where s.a = t.b and r.c = t.a and s.c = r.d")
        self.same(ceiling(block, as_is(0, 1), ()), 10)
        self.same(ceiling(block, as_is(0, 1, 2), ()), 90)
        house = house_of(
            t=("ab", (("rows", 5),)), s=("ac", (("rows", 6), ("fan", ("c",), 1))), r=("cd", (("rows", 7), ("key", ("c",)))))
        block = helper.block(house, "select t.a from t, s, r where s.a = t.b and r.c = s.c")
        # t, s, r: 5 * 6 * 1; r, s, t: 7 * 1 * 5; s, r, t: 6 * 1 * 5
        self.same(ceiling(block, as_is(0, 1, 2), ()), 30)
        house.retell("t", (("rows", 5), ("fan", ("b",), 2)))
        house.retell("s", (("rows", 100), ("fan", ("c",), 1)))
        block = helper.block(house, "select t.a from t, s, r where s.a = t.b and r.c = s.c")
        # t is the least first, but r, s, t is 7 * 1 * 2
        self.same(ceiling(block, as_is(0, 1, 2), ()), 14)

    def test_beside_slow_ones(self):
        chance = random.Random(531)
        many = 0
        for _, block in helper.chance_blocks(53, 100):
            for state in list(all_states(block)) + sides(block):
                marks = seen(block, state)
                every = [one for size in range(len(marks) + 1) for one in itertools.combinations(marks, size)]
                for asked in chance.sample(every, min(4, len(every))):
                    wanted = slow.ceiling(block, state, asked)
                    twice = list(asked + asked)
                    chance.shuffle(twice)
                    self.same(ceiling(block, state, asked), wanted)
                    self.same(ceiling(block, state, tuple(twice)), wanted)
                    many += 1
            for u, unit in enumerate(block.units):
                places = [place for place in range(unit.wide) if chance.random() < 0.5]
                self.same(fan_of(block, u, tuple(places + places[::-1])), slow.fan(block, u, places))
                for place in range(unit.wide):
                    self.same(dist_of(block, u, place), slow.dist(block, u, place))
        self.assertGreater(many, 2000)

    def test_bags(self):
        """G5 of [11]: rows that keep the facts never make a bag that breaks a ceiling."""
        chance = random.Random(532)
        full = 0
        for house, block in helper.chance_blocks(533, 60):
            helper.put_let(house, chance, 5)
            for state in list(all_states(block)) + sides(block):
                rows = bag(house, block, state)
                marks = list(seen(block, state))
                some = chance.sample(marks, chance.randrange(len(marks) + 1))
                for asked in ([], some):
                    many = {}
                    for row in rows:
                        key = tuple(row[mark] for mark in asked)
                        many[key] = many.get(key, 0) + 1
                    most = ceiling(block, state, tuple(asked))
                    self.assertLessEqual(max(many.values(), default=0), most)
                    full += most == max(many.values(), default=0) > 0
        self.assertGreater(full, 300)

    def test_more_marks(self):
        """[55]: by more marks or places nothing is greater; a join is at most its parts, each by its marks."""
        chance = random.Random(534)
        for _, block in helper.chance_blocks(535, 60):
            sizes = Ceilings(block)
            for state in list(all_states(block)) + sides(block):
                marks = list(seen(block, state))
                chance.shuffle(marks)
                found = [sizes.by(state, tuple(marks[:many])) for many in range(len(marks) + 1)]
                self.assertEqual(found, sorted(found, reverse=True))
            for u, unit in enumerate(block.units):
                places = chance.sample(range(unit.wide), unit.wide)
                found = [sizes.fan(u, tuple(places[:many])) for many in range(len(places) + 1)]
                self.assertEqual(found, sorted(found, reverse=True))
            states = all_states(block)
            for _ in range(20):
                one, other = chance.choice(states), chance.choice(states)
                if not {u for part, _ in one for u in part} & {u for part, _ in other for u in part}:
                    both = tuple(sorted(one + other))
                    asked = [mark for mark in seen(block, both) if chance.random() < 0.5]
                    parts = [sizes.by(state, tuple(mark for mark in asked if mark in seen(block, state)))
                             for state in (one, other)]
                    self.assertLessEqual(sizes.by(both, tuple(asked)), parts[0] * parts[1])

    def test_tighter_facts(self):
        """[55] G10: with facts at least as tight nothing is greater."""
        chance = random.Random(536)
        for question in helper.join_questions(537, 60):
            house = helper.store()
            helper.tell_facts(house, chance)
            try:
                before = helper.block_of(house, question)
            except helper.errors.TooMuch:
                continue
            table = chance.choice("ts")
            facts = [tighter(chance, fact) for fact in house.facts_of(table)]
            house.retell(table, tuple(facts + [("fan", (house.columns_of(table)[0][0],), 1)]))
            after = helper.block_of(house, question)
            for state in list(all_states(before)) + sides(before):
                marks = [mark for mark in seen(before, state) if chance.random() < 0.5]
                self.assertLessEqual(ceiling(after, state, marks), ceiling(before, state, marks))
            for u, unit in enumerate(before.units):
                for place in range(unit.wide):
                    self.assertLessEqual(fan_of(after, u, (place,)), fan_of(before, u, (place,)))
                    self.assertLessEqual(dist_of(after, u, place), dist_of(before, u, place))


def tighter(chance, fact):
    if fact[0] in ("key", "lies"):
        return fact
    return fact[:-1] + (max(min(fact[-1], 1), fact[-1] - chance.randrange(3)),)


def bag(house, block, state):
    """The rows of the bag of a state as dicts of marks, by the words of [8]."""
    if state[0] == "side":
        unit = block.units[state[1]]
        worths = [{mark: row[place] for place, mark in unit.cols} for row in slow.source_rows(house, unit)]
        return [one for one in worths if all(slow.mark_truth(cond, one, ()) is True for cond in unit.own)]
    units = sorted(u for part, _ in state for u in part)
    classes = {}
    for places, worth in slow.assignments(house, block, units):
        key = []
        row = {}
        for part, is_squeezed in state:
            if is_squeezed:
                own = sorted(slow.kept(block, part))
                key.append(tuple(rank(worth[mark]) for mark in own))
            else:
                own = slow.bears(block, part[0])
                key.append(places.get(part[0]))
            row.update({mark: worth[mark] for mark in own})
        classes[tuple(key)] = row
    return list(classes.values())


class CeilingsTest(helper.Case):

    def test_beside_functions(self):
        """Each method beside its function, asked in several sequences."""
        chance = random.Random(56)
        for _, block in helper.chance_blocks(561, 40):
            states = list(all_states(block)) + sides(block)
            asked = [(state, tuple(mark for mark in seen(block, state) if chance.random() < 0.5)) for state in states]
            wide = [(u, place) for u, unit in enumerate(block.units) for place in range(unit.wide)]
            sets = [tuple(u for part, _ in state for u in part) for state in states if state[0] != "side"]
            sets = [tuple(sorted(one)) for one in sets]
            us = range(len(block.units))
            questions = [("by", one, ceiling(block, *one)) for one in asked]
            questions += [("bag_size", (state,), ceiling(block, state, ())) for state in states]
            questions += [("fan", (u, (place,)), fan_of(block, u, (place,))) for u, place in wide]
            questions += [("dist", one, dist_of(block, *one)) for one in wide]
            questions += [("marks_at", (one,), marks_in(block, one)) for one in sets]
            questions += [("ready_at", (one,), ready(block, one)) for one in sets]
            questions += [("kept_at", (one,), kept(block, one)) for one in sets]
            questions += [("seen_at", (state,), seen(block, state)) for state in states]
            questions += [("pairs_at", (u,), pairs_of(block, u)) for u in us]
            questions += [("bound_at", (u,), bound_of(block, u)) for u in us]
            sizes = Ceilings(block)
            for _ in range(2):
                chance.shuffle(questions)
                for name, told, wanted in questions:
                    self.same(getattr(sizes, name)(*told), wanted)
            for name, told, wanted in chance.sample(questions, 5):
                self.same(getattr(Ceilings(block), name)(*told), wanted)
            self.assertIs(sizes.block, block)

    def test_by_name(self):
        block = helper.block(helper.shop(), SUMS)
        sizes = Ceilings(block=block)
        state = (((0,), 0),)
        found = [
            sizes.by(state=state, marks=()), sizes.bag_size(state=state), sizes.fan(u=0, places=()),
            sizes.dist(u=0, place=0), sizes.marks_at(units=(0,)), sizes.ready_at(units=(0,)),
            sizes.kept_at(units=(0,)), sizes.seen_at(state=state), sizes.pairs_at(u=0), sizes.bound_at(u=0)]
        self.same(found, [1000, 1000, 1000, 10, (0,), (), (0,), (0,), (), ()])
        self.same(sizes.marks_at(()), ())
        self.same(sizes.ready_at(()), ())

    def test_at_the_bounds(self):
        """Blocks at their bounds end in good time."""
        names = "abcdef"
        house = House()
        for at in range(5):
            house.add_table(f"t{at}", number_columns(names, ""), tuple(
                [("rows", 1000 + at)] + [("fan", (name,), 10 + at) for name in names]
                + [("dist", name, 20 + at) for name in names[:5]]))
        for many, tail in ((5, ""), (4, " group by t0.f, t1.f, t2.f, t3.f")):
            sources = ", ".join(f"t{at}" for at in range(many))
            where = " and ".join(f"t{at}.{names[one]} = t{one}.{names[at]}"
                                 for at in range(many) for one in range(at + 1, many))
            block = helper.block(house, f"select t0.f, 1 as d from {sources} where {where}{tail}")
            sizes = Ceilings(block)
            for state in all_states(block):
                marks = seen(block, state)
                for mark in marks:
                    sizes.by(state, (mark,))
                self.same(sizes.by(state, marks) <= sizes.bag_size(state), True)
            self.same(sizes.bag_size(whole_state(block)), slow.ceiling(block, whole_state(block), ()))


if __name__ == "__main__":
    unittest.main()
