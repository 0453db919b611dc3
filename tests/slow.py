"""Slow ways to what the program tells, by the words of the document alone."""

import functools
import itertools

from leastplans.blockmeanings import means
from leastplans.marks import marks_in_all
from leastplans.worths import mark_truth


def source_rows(house, unit):
    if isinstance(unit.source, str):
        return house.rows_of_table(unit.source)
    return means(house, unit.source)


def assignments(house, block, units):
    """The assignments of some units: pairs (dict of places, dict of values of marks).

    Each choice of places is looked at. They rise by the places of core units, then of left ones.
    """
    sources = {u: source_rows(house, block.units[u]) for u in units}
    cores = [u for u in units if block.units[u].kind == "core"]
    lefts = [u for u in units if block.units[u].kind == "left"]
    choices = [list(range(len(sources[u]))) for u in cores]
    choices += [[None] + list(range(len(sources[u]))) for u in lefts]
    found = []
    for chosen in itertools.product(*choices):
        places = dict(zip(cores + lefts, chosen))
        worth = values_at(block, sources, places)
        if worth is not None and is_let(block, units, sources, places, worth):
            found.append((places, worth))
    return found


def values_at(block, sources, places):
    """The values of all marks, None where two of core columns are not equal."""
    worth = {}
    fixed = dict(block.fixed)
    for u in places:
        for place, mark in block.units[u].cols:
            value = None if places[u] is None else sources[u][places[u]][place]
            if block.units[u].kind == "core":
                if mark in fixed and fixed[mark] != value:
                    return None
                if mark in worth and (value is None or worth[mark] != value):
                    return None
            worth[mark] = value
    return worth


def is_let(block, units, sources, places, worth):
    for u in units:
        unit = block.units[u]
        if unit.kind == "core":
            continue
        fitting = []
        for at, row in enumerate(sources[u]):
            longer = {**worth, **{mark: row[place] for place, mark in unit.cols}}
            if all(mark_truth(cond, longer, ()) is True for cond in unit.own + unit.ties):
                fitting.append(at)
        if unit.kind == "left" and places[u] not in (fitting or [None]):
            return False
        if unit.kind != "left" and (unit.kind == "semi") != bool(fitting):
            return False
    tests = [test for test in block.tests if all(mark in worth for mark in marks_in_all((test,)))]
    return all(mark_truth(test, worth, ()) is True for test in tests)


def bears(block, u):
    unit = block.units[u]
    return {mark for _, mark in unit.cols} if unit.kind in ("core", "left") else set()


def marks_of(block, units):
    return set().union(*[bears(block, u) for u in units])


def set_of_marks(thing):
    return set(marks_in_all((thing,)))


def closed(block, units):
    marks = marks_of(block, units)
    return any(block.units[u].kind == "core" for u in units) and all(
        set(block.units[u].need) <= marks for u in units)


def kept(block, units):
    own = marks_of(block, units)
    found = set()
    for mark in own:
        outside = [unit for u, unit in enumerate(block.units) if u not in units]
        tests = [set(marks_in_all((test,))) for test in block.tests]
        if (mark in block.groups
                or any(unit.kind == "core" and mark in [own for _, own in unit.cols] for unit in outside)
                or any(mark in unit.need for unit in outside)
                or any(mark in test and not test <= own for test in tests)):
            found.add(mark)
    return found


def seen(block, state):
    if state[0] == "side":
        return {mark for _, mark in block.units[state[1]].cols}
    return set().union(*[kept(block, units) if flag else bears(block, units[0]) for units, flag in state])


def states(block):
    """All states but sides: each way to tell parts is tried."""
    everything = range(len(block.units))
    sets = [one for many in range(1, len(block.units) + 1) for one in itertools.combinations(everything, many)]
    parts = [((u,), 0) for u in everything]
    if block.grouped:
        parts += [(one, 1) for one in sets if closed(block, one)]
    found = []
    for many in range(1, len(block.units) + 1):
        for chosen in itertools.combinations(sorted(parts), many):
            units = sorted(u for one, _ in chosen for u in one)
            if len(units) == len(set(units)) and closed(block, units):
                found.append(chosen)
    return found


def whole(block):
    every = tuple(range(len(block.units)))
    return ((every, 1),) if block.grouped else tuple(((u,), 0) for u in every)


def fan(block, u, places):
    unit = block.units[u]
    if isinstance(unit.source, str):
        found = []
        for fact in unit.told:
            if fact[0] == "rows":
                found.append(fact[1])
            if fact[0] == "key" and set(fact[1]) <= set(places):
                found.append(1)
            if fact[0] == "fan" and set(fact[1]) <= set(places):
                found.append(fact[2])
        return min(found)
    inner = unit.source
    number = 1
    if not inner.bare():
        outs = [inner.outs[place] for place in places]
        number = ceiling(inner, whole(inner), [out[1] for out in outs if out[0] == "mark"])
    return number if inner.limit is None else min(number, inner.limit)


def dist(block, u, place):
    unit = block.units[u]
    found = [fan(block, u, ())]
    if isinstance(unit.source, str):
        found += [fact[2] for fact in unit.told if fact[:2] == ("dist", place)]
    elif unit.source.outs[place][0] == "mark":
        found += dists(unit.source, range(len(unit.source.units)), unit.source.outs[place][1])
    return min(found)


def dists(block, units, mark):
    found = []
    for u in units:
        for place, own in block.units[u].cols:
            if own == mark and block.units[u].kind == "core":
                found.append(dist(block, u, place))
            if own == mark and block.units[u].kind == "left":
                found.append(dist(block, u, place) + 1)
    return found


def is_equal(cond, one, other):
    return cond[:2] == ("cmp", "=") and cond[2:] in ((one, other), (other, one))


def pairs(block, u):
    """The pairs of an attachment, as a set."""
    unit = block.units[u]
    return {(a, b) for a in unit.need for _, b in unit.cols for tie in unit.ties
            if is_equal(tie, ("mark", a), ("mark", b))}


def bound(block, u):
    """The bound marks of an attachment, as a set."""
    unit = block.units[u]
    return {mark for _, mark in unit.cols for cond in unit.own
            if cond[:2] == ("cmp", "=") and ("mark", mark) in cond[2:]
            and any(side[0] in ("num", "text") for side in cond[2:])}


def ceiling(block, state, marks):
    return ceiling_by(block, state, frozenset(marks))


@functools.lru_cache(maxsize=100000)
def ceiling_by(block, state, marks):
    if state[0] == "side":
        u = state[1]
        let = set(marks) | bound(block, u)
        return fan(block, u, [place for place, mark in block.units[u].cols if mark in let])
    parts = [part for part in state if part[1] or block.units[part[0][0]].kind in ("core", "left")]
    found = []
    for sequence in itertools.permutations(parts):
        product = 1
        for at, part in enumerate(sequence):
            before = seen(block, sequence[:at]) if at else set()
            if not part[1] and not set(block.units[part[0][0]].need) <= before:
                product = None
                break
            known = set(marks) | {mark for mark, _ in block.fixed} | before
            product *= factor(block, part, set(marks), known)
        if product is not None:
            found.append(product)
    return min(found)


def factor(block, part, marks, known):
    units, flag = part
    if flag:
        own = kept(block, units)
        apart = 1
        for mark in own - known:
            apart *= min(dists(block, units, mark))
        return min(apart, ceiling(block, tuple(((u,), 0) for u in units), own & known))
    u = units[0]
    cols = block.units[u].cols
    if block.units[u].kind == "core":
        return fan(block, u, [place for place, mark in cols if mark in known])
    let = marks | bound(block, u) | {b for a, b in pairs(block, u) if a in known}
    return max(1, fan(block, u, [place for place, mark in cols if mark in let]))


class Refused(Exception):
    """A plan is not let: (path, word)."""


def lift(number):
    many = 0
    while 2 ** many < number:
        many += 1
    return many


def bits(number):
    return len(f"{number:b}") if number else 0


def need(true, path, word):
    if not true:
        raise Refused(path, word)


def prefix(one, other):
    many = 0
    for a, b in zip(one, other):
        if a != b:
            break
        many += 1
    return one[:many]


def units(state):
    return {state[1]} if state[0] == "side" else {u for part, _ in state for u in part}


def fixed(block):
    return {mark for mark, _ in block.fixed}


def told(block, u):
    return fixed(block) if block.units[u].kind == "core" else bound(block, u)


def way(block):
    found = []
    for place, how in list(block.orders) + [(at, "asc") for at in range(len(block.outs))]:
        out = block.outs[place]
        if out[0] == "mark" and out[1] in fixed(block) | set(found):
            continue
        if out[0] != "mark" or how == "desc":
            return found, False
        found.append(out[1])
    return found, True


def wanted(block, state):
    marks = sorted(seen(block, state))
    outside = [u for u in range(len(block.units)) if u not in units(state)]
    found = []
    if state[0] == "side":
        seconds = {b for _, b in pairs(block, state[1])}
        return [(mark,) for mark in marks if mark in seconds - bound(block, state[1])]
    asked = {a for u in outside for a, _ in pairs(block, u)}
    asked |= {mark for u in outside if block.units[u].kind == "core" for mark in bears(block, u)}
    found = [(mark,) for mark in marks if mark in asked - fixed(block)]
    if block.grouped and not (len(state) == 1 and state[0][1]):
        found.append(tuple(sorted(kept(block, sorted(units(state))) - fixed(block))))
    if block.listed:
        own, _ = way(block)
        found.append(tuple(prefix(own, [mark if mark in marks else None for mark in own])))
    return list(dict.fromkeys(order for order in found if order))


def as_unit(block, u):
    return (((u,), 0),) if block.units[u].kind == "core" else ("side", u)


def leaf_order(block, u, places):
    found = []
    for place in places:
        mark = dict(block.units[u].cols).get(place)
        if mark is None:
            break
        if mark not in told(block, u) and mark not in found:
            found.append(mark)
    return tuple(found)


def join(one, other):
    return tuple(sorted(one + ((((other[1],), 0),) if other[0] == "side" else other)))


def judge(block, plan, path=()):
    """(state, order, price) of a formed plan by [10]; raises Refused."""
    word = plan[0]
    if word in ("scan", "walk", "seek", "inner"):
        u = plan[1]
        need(u < len(block.units), path, "unit")
        unit = block.units[u]
        need((word == "inner") != isinstance(unit.source, str), path, "source")
        size = fan(block, u, ())
        if word == "scan":
            return as_unit(block, u), leaf_order(block, u, unit.lies), size
        if word == "inner":
            order, price, _ = judge_top(unit.source, plan[2], path + (0,))
            return as_unit(block, u), leaf_order(block, u, order), price + size
        need(plan[2] in dict(unit.indexed), path, "index")
        places = dict(unit.indexed)[plan[2]]
        if word == "walk":
            return as_unit(block, u), leaf_order(block, u, places), 2 * size
        need(plan[3] in range(1, len(places) + 1), path, "length")
        need(all(dict(unit.cols).get(place) in told(block, u) for place in places[:plan[3]]), path, "equal")
        return as_unit(block, u), leaf_order(block, u, places), bits(size) + 1 + 2 * fan(block, u, places[:plan[3]])
    state, order, price = judge(block, plan[1], path + (0,))
    size = ceiling(block, state, ())
    if word in ("loop", "hash", "merge"):
        right, right_order, more = judge(block, plan[2], path + (1,))
        other = ceiling(block, right, ())
        need(state[0] != "side", path, "side")
        need(not units(state) & units(right), path, "overlap")
        both = {(mark, mark) for mark in seen(block, state) & seen(block, right)}
        if right[0] == "side":
            need(set(block.units[right[1]].need) <= marks_of(block, units(state)), path, "need")
            both = pairs(block, right[1])
        if word == "loop":
            return join(state, right), order, price + more + size + other + size * other
        if word == "hash":
            need(both, path, "equal")
        else:
            need(order and right_order and (order[0], right_order[0]) in both, path, "order")
            both = {(order[0], right_order[0])}
        cand = min(size * ceiling(block, right, {b for _, b in both}), other * ceiling(block, state, {a for a, _ in both}))
        return join(state, right), order, price + more + size + (2 if word == "hash" else 1) * other + cand
    if word == "look":
        return judge_look(block, plan, path, state, order, price, size)
    if word == "sort":
        need(plan[1][0] != "sort", path, "twice")
        need(plan[2] in wanted(block, state), path, "target")
        alike = ceiling(block, state, prefix(order, plan[2]))
        return state, plan[2], price + size + size * lift(alike)
    need(state[0] != "side", path, "side")
    need(block.grouped, path, "plain")
    need(not (len(state) == 1 and state[0][1]), path, "twice")
    new = ((tuple(sorted(units(state))), 1),)
    if word == "bag":
        return new, (), price + 2 * size
    own = kept(block, units(state)) - fixed(block)
    need(len(order) >= len(own) and set(order[:len(own)]) == own, path, "order")
    return new, order[:len(own)], price + size


def judge_look(block, plan, path, state, order, price, size):
    _, _, u, ixname, many = plan
    need(state[0] != "side", path, "side")
    need(u < len(block.units), path, "unit")
    unit = block.units[u]
    need(u not in units(state), path, "overlap")
    need(isinstance(unit.source, str), path, "source")
    need(ixname in dict(unit.indexed), path, "index")
    places = dict(unit.indexed)[ixname]
    need(1 <= many <= len(places), path, "length")
    need(set(unit.need) <= marks_of(block, units(state)), path, "need")
    let = told(block, u) | (seen(block, state) if unit.kind == "core" else {b for _, b in pairs(block, u)})
    need(all(dict(unit.cols).get(place) in let for place in places[:many]), path, "equal")
    each = bits(fan(block, u, ())) + 1 + 2 * fan(block, u, places[:many])
    return join(state, ("side", u)), order, price + size + size * each


def judge_top(block, top, path=()):
    """(order of outputs, price, ceiling of rows) of a formed top; raises Refused."""
    state, order, price = judge(block, top[1], path + (0,))
    size = ceiling(block, state, ())
    need(state[0] != "side", path, "side")
    need(state == whole(block), path, "whole")
    own, is_all = way(block)
    matched = prefix(order, own)
    run = 1 if block.bare() else ceiling(block, state, matched)
    rows = 1 if block.bare() else size
    rows = rows if block.limit is None else min(rows, block.limit)
    outs = list(block.outs)
    if len(top) == 2:
        need(not block.listed or run <= 1 or is_all and len(matched) == len(own), path, "unsorted")
        found = []
        for mark in order:
            if ("mark", mark) not in outs:
                break
            found.append(outs.index(("mark", mark)))
        return tuple(found), price + size, rows
    need(block.listed, path, "plain")
    found = []
    for place, how in list(block.orders) + [(at, "asc") for at in range(len(outs))]:
        if how == "desc":
            break
        found.append(place)
    return tuple(dict.fromkeys(found)), price + size + size * lift(run), rows
