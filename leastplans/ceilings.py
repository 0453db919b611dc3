"""How many rows the bags of states have at most."""

from leastplans.keeping import kept, marks_in, ready
from leastplans.states import as_they_are, is_side, seen, whole_state
from leastplans.unitmarks import bound_of, has_table, pairs_of


def ceiling(block, state, marks):
    """At most so many rows of the bag of the state are alike in the marks."""
    return Ceilings(block).by(state, marks)


def fan_of(block, u, places):
    """At most so many rows of the source of a unit are alike in the columns at places."""
    return Ceilings(block).fan(u, places)


def dist_of(block, u, place):
    """At most so many unlike values stand in a column of the source of a unit."""
    return Ceilings(block).dist(u, place)


class Ceilings:
    """The ceilings of a block; what has been worked out is kept."""

    def __init__(self, block):
        self.block = block
        self.answers = {}
        self.insides = {}

    def by(self, state, marks):
        """The ceiling of a state by marks."""
        if is_side(state):
            u = state[1]
            known = list(marks) + [mark for mark, _ in self.bound_at(u)]
            return self.fan(u, [place for place, mark in self.block.units[u].cols if mark in known])
        product = 1
        for _, _, factor in self.sequence_of(state, marks):
            product *= factor
        return product

    def bag_size(self, state):
        return self.by(state, ())

    def fan(self, u, places):
        """The fan of a unit by the columns at places."""
        asked = tuple(sorted(set(places)))
        key = ("fan", u, asked)
        if key not in self.answers:
            unit = self.block.units[u]
            if has_table(unit):
                self.answers[key] = min([number_of(fact) for fact in told_by(unit, asked)])
            else:
                self.answers[key] = outputs_fan(self.inside(u), asked)
        return self.answers[key]

    def dist(self, u, place):
        """The dist of a column of a unit."""
        key = ("dist", u, place)
        if key not in self.answers:
            unit = self.block.units[u]
            found = [self.fan(u, ())]
            if has_table(unit):
                found.extend([fact[2] for fact in unit.told if fact[0] == "dist" and fact[1] == place])
            elif unit.source.outs[place][0] == "mark":
                found.extend(mark_dists(self.inside(u), None, unit.source.outs[place][1]))
            self.answers[key] = min(found)
        return self.answers[key]

    def marks_at(self, units):
        return self.answer_once("marks", marks_in, units)

    def ready_at(self, units):
        return self.answer_once("ready", ready, units)

    def kept_at(self, units):
        return self.answer_once("kept", kept, units)

    def seen_at(self, state):
        return self.answer_once("seen", seen, state)

    def pairs_at(self, u):
        return self.answer_once("pairs", pairs_of, u)

    def bound_at(self, u):
        return self.answer_once("bound", bound_of, u)

    def answer_once(self, word, answer, asked):
        """What a function of the block and asked returns; it is called but once."""
        key = (word, asked)
        if key not in self.answers:
            self.answers[key] = answer(self.block, asked)
        return self.answers[key]

    def inside(self, u):
        """The Ceilings of the block that is the source of a unit."""
        if u not in self.insides:
            self.insides[u] = Ceilings(self.block.units[u].source)
        return self.insides[u]

    def sequence_of(self, state, marks):
        """A sequence of the parts of a closed state whose product by marks is the least.

        Triples (part, marks that are known at it, factor).
        """
        asked = tuple(sorted(set(marks)))
        key = ("sequence", state, asked)
        if key not in self.answers:
            self.answers[key] = least_sequence(self, state, asked)
        return self.answers[key]


def told_by(unit, places):
    """The told facts of a table that bound the rows alike in the columns at places."""
    return [fact for fact in unit.told if is_told_by(fact, places)]


def is_told_by(fact, places):
    if fact[0] == "rows":
        return True
    return fact[0] in ("key", "fan") and all(place in places for place in fact[1])


def number_of(fact):
    """How many rows a fact lets be alike."""
    return 1 if fact[0] == "key" else fact[-1]


def outputs_fan(sizes, places):
    """At most so many rows of the meaning of a block are alike in the outputs at places."""
    block = sizes.block
    if block.bare():
        number = 1
    else:
        outs = [block.outs[place] for place in places]
        number = sizes.by(whole_state(block), [out[1] for out in outs if out[0] == "mark"])
    return number if block.limit is None else min(number, block.limit)


def mark_dists(sizes, units, mark):
    """The dists of the columns with a mark of core units, and of left ones each more by 1.

    Only of the told units, if units is not None.
    """
    found = []
    for u, unit in enumerate(sizes.block.units):
        if unit.kind in ("core", "left") and (units is None or u in units):
            more = 1 if unit.kind == "left" else 0
            found.extend([sizes.dist(u, place) + more for place, own in unit.cols if own == mark])
    return found


def parts_counted(block, state):
    """The parts of a closed state that have a factor: all but semi and anti units as they are."""
    found = []
    for part in state:
        units, is_squeezed = part
        if is_squeezed or block.units[units[0]].kind in ("core", "left"):
            found.append(part)
    return found


def may_stand(block, part, sees):
    """True if a part may stand behind parts that see these marks together."""
    units, is_squeezed = part
    return bool(is_squeezed) or all(mark in sees for mark in block.units[units[0]].need)


def known_marks(block, asked, sees):
    """All marks that are known at a part behind parts that see these marks together."""
    known = list(asked) + list(sees) + [mark for mark, _ in block.fixed]
    return tuple(sorted(set(known)))


def least_sequence(sizes, state, asked):
    block = sizes.block
    parts = parts_counted(block, state)
    # what a part costs depends only on which parts stand before it, a bit for each in done
    best = {0: (1, (), ())}
    for done in range(1 << len(parts)):
        if done not in best:
            continue
        product, chain, sees = best[done]
        known = known_marks(block, asked, sees)
        for at, part in enumerate(parts):
            if done & (1 << at) or not may_stand(block, part, sees):
                continue
            factor = factor_of(sizes, part, asked, known)
            after = done | (1 << at)
            if after not in best or product * factor < best[after][0]:
                longer = chain + ((part, known, factor),)
                best[after] = (product * factor, longer, sees + sizes.seen_at((part,)))
    return best[(1 << len(parts)) - 1][1]


def factor_of(sizes, part, asked, known):
    """The factor of a part, by the marks of the set and all known ones."""
    units, is_squeezed = part
    if is_squeezed:
        within = sizes.by(as_they_are(units), kept_known(sizes, units, known))
        return min(within, factor_apart(sizes, units, known))
    return factor_as_it_is(sizes, units[0], sizes.fan(units[0], fan_places(sizes, units[0], asked, known)))


def factor_as_it_is(sizes, u, number):
    """The factor of a unit as it is that has this fan."""
    return max(number, 1) if sizes.block.units[u].kind == "left" else number


def kept_known(sizes, units, known):
    """The known marks that a squeezed part keeps."""
    return tuple([mark for mark in sizes.kept_at(units) if mark in known])


def factor_apart(sizes, units, known):
    """How many unlike values the unknown marks have that a squeezed part keeps."""
    product = 1
    for mark in sizes.kept_at(units):
        if mark not in known:
            product *= min(mark_dists(sizes, units, mark))
    return product


def fan_places(sizes, u, asked, known):
    """The columns by which the fan of a unit as it is is taken."""
    unit = sizes.block.units[u]
    if unit.kind == "core":
        marks = known
    else:
        marks = list(asked) + [mark for mark, _ in sizes.bound_at(u)]
        marks.extend([own for other, own in sizes.pairs_at(u) if other in known])
    return tuple([place for place, mark in unit.cols if mark in marks])
