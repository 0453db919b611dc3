"""Plans that are let, drawn by chance from the steps that the program tells."""

import random

import helper
from leastplans.blocks import block_of
from leastplans.ceilings import Ceilings
from leastplans.errors import TooMuch
from leastplans.leafsteps import inner_told
from leastplans.leafways import leaf_ways
from leastplans.stepways import gives_over, over_one, over_two, sorts_over


class Drawn:
    """A pool of let plans of a block: triples (plan, state, order)."""

    def __init__(self, chance, block, many, barred=()):
        self.chance = chance
        self.block = block
        self.barred = barred
        self.sizes = Ceilings(block)
        self.pool = [(step, state, order) for step, state, order, _ in leaf_ways(self.sizes, barred)]
        for u, unit in enumerate(block.units):
            if not isinstance(unit.source, str):
                for top, outputs in Drawn(chance, unit.source, many, barred).tops[-5:]:
                    state, order, _ = inner_told(self.sizes, u, outputs)
                    self.pool.append((("inner", u, top), state, order))
        self.seen = set(self.pool)
        for _ in range(many):
            self.grow()
        self.tops = []
        self.finish()

    def grow(self):
        """One more plan over those of the pool, where some step is let."""
        plan, state, order = self.chance.choice(self.pool)
        child = (state, order)
        found = []
        if plan[0] != "sort":
            found += [(("sort", plan, step[1]), *told) for step, *told in sorts_over(self.sizes, child, self.barred)]
        found += [((step[0], plan) + step[1:], *told) for step, *told in over_one(self.sizes, child, self.barred)]
        for _ in range(5):
            other, *right = self.chance.choice(self.pool)
            found += [((step[0], plan, other), *told)
                      for step, *told in over_two(self.sizes, child, tuple(right), self.barred)]
        if found:
            word = self.chance.choice(sorted({new[0] for new, *_ in found}))
            new, state, order, _ = self.chance.choice([one for one in found if one[0][0] == word])
            if (new, state, order) not in self.seen:
                self.seen.add((new, state, order))
                self.pool.append((new, state, order))

    def finish(self):
        """Tops, at least one: what is not of the whole state is joined by loops."""
        plan, state, order = self.chance.choice([one for one in self.pool if one[1][0] != "side"])
        while True:
            rest = [other for other in self.pool if over_two(self.sizes, (state, order), other[1:], ())]
            if not rest:
                break
            other = self.chance.choice(rest)
            step, state, order, _ = self.chance.choice(over_two(self.sizes, (state, order), other[1:], self.barred))
            plan = (step[0], plan, other[0])
        if self.block.grouped and not (len(state) == 1 and state[0][1]):
            plan, state, order = ("bag", plan), ((tuple(sorted(u for part, _ in state for u in part)), 1),), ()
        for one, state, order in self.pool + [(plan, state, order)]:
            self.tops += [(("give", one) + step[1:], outputs) for step, outputs, _ in gives_over(self.sizes, (state, order))]


# questions over helper.store() with much to join by, of every kind of unit
TEXTS = """
select t.a, s.c from t, s where t.a = s.a
select t.b, s.c from t join s on t.b = s.a where s.c = 1
select t.a, s.c, t.x from t, s where t.a = s.a and t.b = s.c and t.x < s.y
select t.a, q.b from t, t q where t.b = q.a and t.x = q.x
select t.a, s.c, p.k from t, s, p where t.a = s.a and s.c = p.k
select t.a, s.c, p.k from t, s, p where t.a = p.k and s.c = p.k and t.b + s.a < 3
select t.a, s.c from t left join s on t.a = s.a
select t.a, s.c from t left join s on t.b = s.a and s.c = 1
select t.a, s.c from t left join s on t.a = s.a where s.c is null or s.c > t.b
select t.a, s.c, p.k from t left join s on t.a = s.a left join p on p.k = s.c
select t.a, s.c, p.k from t left join s on t.a = s.a and s.y > t.x left join p on p.k = t.b where maybe [s.c < p.k]
select t.x, s.y from t left join s on s.a = t.a and s.c = t.a
select t.x from t where not exists (from s where s.a = t.b and s.c = t.b)
select t.a, t.x from t where exists (from s where s.a = t.a)
select t.a, t.x from t where exists (from s where s.a = t.a and s.c = 1 and s.y > t.x)
select t.a, t.x from t where not exists (from s where s.a = t.b)
select t.a from t where t.b in (select s.c from s)
select t.a from t where t.b not in (select s.c from s where s.a = 1)
select t.a, p.k from t, p where t.a = p.k and not exists (from s where s.a = t.b and s.c = p.k) and exists (from t q where q.a = p.k)
select t.a, sum (t.b) as x, count (*) as n from t, s where t.a = s.a group by t.a
select t.a, s.c, sum (t.b) as x, count (t.b) as n, min (s.y) as m from t, s where t.a = s.a group by t.a, s.c
select t.x, count (s.c) as n, sum (p.k) as m from t, s, p where t.a = s.a and s.c = p.k group by t.x order by n desc
select t.a, count (s.c) as n, max (s.y) as m, sum (s.a) as x from t left join s on t.a = s.a and s.c = t.b group by t.a
select count (*) as n, min (t.x) as m, sum (s.c) as x from t, s where t.a = s.a
select count (*) as n, sum (s.c) as x from t left join s on t.a = s.a where t.b = 1
select t.a, count (*) as n from t where exists (from s where s.a = t.a) group by t.a having count (*) > 1 order by a desc
select t.a, count (*) as n from t, s where t.a = s.a and t.b = 1 group by t.a, s.c having sum (s.c) > 0
select t.a, s.c from t, s where t.a = s.a order by c desc, a
select t.a, t.b, t.x from t order by b limit 3
select t.a, t.b, t.x from t where t.b = 1 order by x, a
select t.x, t.a, s.y as d from t, s where t.a = s.a order by x limit 2
select distinct t.a, s.c from t, s where t.a = s.a order by c
select u.n, s.c from (select t.a, count (*) as n from t group by t.a) u join s on u.a = s.a
select u.b, p.k from p left join (select t.a, t.b from t order by b limit 3) u on u.a = p.k
select p.k from p where p.k in (select t.a from t, s where t.b = s.a limit 2)
select u.m, count (*) as n from (select t.a, min (t.b) as m from t group by t.a) u, s where u.a = s.a group by u.m
select max (u.n) as m from (select t.a, count (*) as n from t, s where t.a = s.a group by t.a having count (*) > 1) u
""".strip().split("\n")


def loose_facts(house, chance):
    """Facts that let many rows be, and indexes, by chance, for the tables of helper.store()."""
    for table in ("t", "s", "p"):
        columns = house.columns_of(table)
        names = [name for name, _, _ in columns]
        facts = [("rows", chance.choice((6, 12, 20)))]
        if table == "p":
            facts.append(("key", ("k",)))
        for name in names:
            if chance.random() < 0.3:
                facts.append(chance.choice((("fan", (name,), 5), ("dist", name, 3))))
        if chance.random() < 0.5:
            facts.append(("lies", tuple(chance.sample(names, chance.randrange(1, len(names) + 1)))))
        chance.shuffle(facts)
        house.retell(table, tuple(facts))
        for at in range(chance.randrange(1, 4)):
            house.add_index(table, f"ix{at}", tuple(chance.sample(names, chance.randrange(1, len(names) + 1))))


def told_houses(seed, times, many, tell=loose_facts):
    """(chance, house, block) of each of TEXTS some times, with facts, indexes and rows by chance."""
    chance = random.Random(seed)
    for text in TEXTS * times:
        house = helper.store()
        tell(house, chance)
        block = helper.block(house, text)
        helper.put_let(house, chance, chance.choice(many))
        yield chance, house, block
