"""The rows of plans, and what their runs count, by the words of the document alone."""

from leastplans.worths import mark_truth, mark_value

import slow
from slow import is_equal, source_rows


def rank(value):
    return (0,) if value is None else (1, value)


def true(conds, worth, folds=()):
    return all(mark_truth(cond, worth, folds) is True for cond in conds)


def fold(fn, values):
    """The fold of a list of values."""
    there = [value for value in values if value is not None]
    if fn == "count":
        return len(there)
    if not there:
        return None
    return {"sum": sum, "min": min, "max": max}[fn](there)


def bag(house, block, state):
    """The bag of a state by [8], a list in any sequence."""
    if state[0] == "side":
        return side_bag(house, block, state[1])
    units = sorted(slow.units(state))
    rows_at = {u: source_rows(house, block.units[u]) for u in units}
    classes = {}
    for places, worth in slow.assignments(house, block, units):
        key = tuple(
            tuple(worth[mark] for mark in sorted(slow.kept(block, part))) if flag else places.get(part[0])
            for part, flag in state)
        classes.setdefault(key, []).append((places, worth))
    found = []
    for members in classes.values():
        folds = []
        for fn, u, column in block.aggs:
            if u in units:
                at = [places[u] for places, _ in members]
                folds.append(fold(fn, [None if one is None else rows_at[u][one][column] for one in at]))
            else:
                folds.append(None)
        values = tuple(members[0][1][mark] for mark in sorted(slow.seen(block, state)))
        found.append((values, len(members), tuple(folds)))
    return found


def side_bag(house, block, u):
    unit = block.units[u]
    found = []
    for row in source_rows(house, unit):
        worth = {mark: row[place] for place, mark in unit.cols}
        if true(unit.own, worth):
            folds = tuple(fold(fn, [row[column]]) if own == u else None for fn, own, column in block.aggs)
            found.append((tuple(worth[mark] for mark in sorted(worth)), 1, folds))
    return found


def taken(block, u, row):
    """The weighted row of a row in a leaf step, or None."""
    unit = block.units[u]
    worth = {mark: row[place] for place, mark in unit.cols}
    conds = unit.own
    if unit.kind == "core":
        for place, mark in unit.cols:
            if any(mark == other and (row[place] is None or row[place] != row[at])
                   for at, other in unit.cols if at != place):
                return None
            if mark in dict(block.fixed) and row[place] != dict(block.fixed)[mark]:
                return None
        conds = [block.tests[at] for at in ready(block, {u})]
    if not true(conds, worth):
        return None
    folds = tuple(fold(fn, [row[column]]) if own == u else None for fn, own, column in block.aggs)
    return (tuple(worth[mark] for mark in sorted(worth)), 1, folds)


def ready(block, units):
    marks = slow.marks_of(block, units)
    return [at for at, test in enumerate(block.tests) if slow.set_of_marks(test) <= marks]


class Sight:
    """Two states that are joined."""

    def __init__(self, block, left, right):
        self.block = block
        self.left, self.right = left, right
        self.kind = block.units[right[1]].kind if right[0] == "side" else "core"
        both = slow.units(left) | slow.units(right)
        old = ready(block, slow.units(left))
        if right[0] != "side":
            old += ready(block, slow.units(right))
        self.tests = [block.tests[at] for at in ready(block, both) if at not in old]
        self.marks = [sorted(slow.seen(block, one)) for one in (left, right)]

    def worth(self, left, right):
        return {**dict(zip(self.marks[0], left[0])), **dict(zip(self.marks[1], right[0]))}

    def fits(self, left, right):
        worth = self.worth(left, right)
        if self.kind != "core":
            return true(self.block.units[self.right[1]].ties, worth)
        one = dict(zip(self.marks[0], left[0]))
        shared = [mark for mark in self.marks[0] if mark in self.marks[1]]
        return all(one[mark] is not None and one[mark] == worth[mark] for mark in shared) and true(self.tests, worth)

    def both(self, left, right):
        if self.kind in ("semi", "anti"):
            return left
        worth = self.worth(left, right)
        if self.kind == "left" and not true(self.tests, worth):
            return None
        folds = []
        for at, (fn, u, _) in enumerate(self.block.aggs):
            own, weight = (left[2][at], right[1]) if u in slow.units(self.left) else (right[2][at], left[1])
            folds.append(own * weight if fn in ("count", "sum") and own is not None else own)
        return (tuple(worth[mark] for mark in sorted(worth)), left[1] * right[1], tuple(folds))

    def nulls(self, left):
        folds = [None] * len(self.block.aggs)
        for at, (fn, u, _) in enumerate(self.block.aggs):
            if fn == "count" and u == self.right[1]:
                folds[at] = 0
        row = self.both(left, ((None,) * len(self.marks[1]), 1, folds))
        return row and (row[0], left[1], row[2])

    def of_left(self, left, rights):
        """The rows that one left row gives, in sequence."""
        fitting = [right for right in rights if self.fits(left, right)]
        if self.kind in ("semi", "anti"):
            return [left] if (self.kind == "semi") == bool(fitting) else []
        made = [self.both(left, right) for right in fitting]
        if self.kind == "left" and not fitting:
            made = [self.nulls(left)]
        return [row for row in made if row is not None]


def entries(house, unit, ixname):
    rows = house.rows_of_table(unit.source)
    places = dict(unit.indexed)[ixname]
    return sorted(range(len(rows)), key=lambda at: ([rank(rows[at][place]) for place in places], at))


def told_values(block, u):
    """The fixed or bound values of the marks of a unit."""
    unit = block.units[u]
    if unit.kind == "core":
        return dict(block.fixed)
    values = {}
    for cond in unit.own[::-1]:
        for _, mark in unit.cols:
            for side in cond[2:] if cond[:2] == ("cmp", "=") else ():
                if side[0] in ("num", "text") and is_equal(cond, ("mark", mark), side):
                    values[mark] = side[1]
    return values


def look_values(block, state, node, left):
    """The told values of a look for a left row."""
    _, _, u, ixname, many = node
    unit = block.units[u]
    own = dict(zip(sorted(slow.seen(block, state)), left[0]))
    values = []
    for place in dict(unit.indexed)[ixname][:many]:
        mark = dict(unit.cols)[place]
        if mark in told_values(block, u):
            values.append(told_values(block, u)[mark])
        elif unit.kind == "core":
            values.append(own[mark])
        else:
            firsts = [a for tie in unit.ties for a in unit.need if is_equal(tie, ("mark", a), ("mark", mark))]
            values.append(own[firsts[0]])
    return values


def found_entries(house, unit, ixname, values):
    """The entries with these first values, the number of looks, and whether one stands behind them."""
    rows = house.rows_of_table(unit.source)
    places = dict(unit.indexed)[ixname][:len(values)]
    every = entries(house, unit, ixname)
    wanted = [rank(value) for value in values]
    ranks = [[rank(rows[at][place]) for place in places] for at in every]
    low, high, looks = 0, len(every), 0
    while low < high:
        looks += 1
        mid = (low + high) // 2
        if ranks[mid] < wanted:
            low = mid + 1
        else:
            high = mid
    found = [at for at, one in zip(every, ranks) if one == wanted]
    return found, looks, any(one > wanted for one in ranks)


def rows(house, block, plan):
    """The rows of a let plan by [66], a list."""
    word = plan[0]
    if word in ("scan", "walk", "seek", "inner"):
        u = plan[1]
        unit = block.units[u]
        if word == "inner":
            lying = answer(house, unit.source, plan[2])
        else:
            lying = house.rows_of_table(unit.source)
            if word == "walk":
                lying = [lying[at] for at in entries(house, unit, plan[2])]
            elif word == "seek":
                values = [told_values(block, u)[dict(unit.cols)[place]] for place in dict(unit.indexed)[plan[2]][:plan[3]]]
                lying = [lying[at] for at in found_entries(house, unit, plan[2], values)[0]]
        return [row for row in (taken(block, u, one) for one in lying) if row is not None]
    below = rows(house, block, plan[1])
    state, _, _ = slow.judge(block, plan[1])
    marks = sorted(slow.seen(block, state))
    if word == "sort":
        return sorted(below, key=lambda row: [rank(row[0][marks.index(mark)]) for mark in plan[2]])
    if word in ("bag", "stream"):
        return squeezed(block, state, below)
    if word == "look":
        unit = block.units[plan[2]]
        sight = Sight(block, state, slow.as_unit(block, plan[2]))
        found = []
        for left in below:
            values = look_values(block, state, plan, left)
            at = [] if None in values else found_entries(house, unit, plan[3], values)[0]
            met = [taken(block, plan[2], house.rows_of_table(unit.source)[one]) for one in at]
            found += sight.of_left(left, [row for row in met if row is not None])
        return found
    right, _, _ = slow.judge(block, plan[2])
    sight = Sight(block, state, right)
    rights = rows(house, block, plan[2])
    return [row for left in below for row in sight.of_left(left, rights)]


def squeezed(block, state, below):
    """Rows alike in kept of the units of the state made one."""
    units = slow.units(state)
    marks = sorted(slow.seen(block, state))
    own = sorted(slow.kept(block, sorted(units)))
    parts = {}
    for row in below:
        parts.setdefault(tuple(row[0][marks.index(mark)] for mark in own), []).append(row)
    found = []
    for key, members in parts.items():
        folds = []
        for at, (fn, u, _) in enumerate(block.aggs):
            values = [row[2][at] for row in members]
            folds.append(fold("sum" if fn == "count" else fn, values) if u in units else None)
        found.append((key, sum(row[1] for row in members), tuple(folds)))
    return found


def outputs(house, block, top):
    """Pairs (weighted row, row of outputs) of what a top makes, unsorted and without a limit."""
    state, _, _ = slow.judge(block, top[1])
    below = rows(house, block, top[1])
    if block.bare() and not below:
        below = [((), 0, tuple(0 if fn == "count" else None for fn, _, _ in block.aggs))]
    found = []
    for row in below:
        worth = dict(zip(sorted(slow.seen(block, state)), row[0]))
        folds = [row[1] if u is None else one for (_, u, _), one in zip(block.aggs, row[2])]
        if true(block.having, worth, folds):
            found.append((row, tuple(mark_value(out, worth, folds) for out in block.outs)))
    return found


class Falling:
    """A rank that goes down."""

    def __init__(self, value):
        self.rank = rank(value)

    def __lt__(self, other):
        return other.rank < self.rank

    def __eq__(self, other):
        return other.rank == self.rank


def wanted_key(block, row):
    wanted = list(block.orders) + [(at, "asc") for at in range(len(block.outs))]
    return [rank(row[place]) if how == "asc" else Falling(row[place]) for place, how in wanted]


def answer(house, block, top):
    """The rows of outputs of a let top, a list."""
    found = [out for _, out in outputs(house, block, top)]
    if len(top) == 3:
        found = sorted(found, key=lambda row: wanted_key(block, row))
    return found[:block.limit]


def merge_count(keys):
    """How many comparisons it takes to sort, halves first: (sorted keys, number)."""
    if len(keys) <= 1:
        return keys, 0
    half = len(keys) // 2
    one, few = merge_count(keys[:half])
    other, more = merge_count(keys[half:])
    found, many = [], few + more
    while one and other:
        many += 1
        found.append(other.pop(0) if other[0] < one[0] else one.pop(0))
    return found + one + other, many


def stretch_count(marks, keys):
    """The comparisons over each stretch of adjacent equal marks."""
    many, first = 0, 0
    for at in range(1, len(marks) + 1):
        if at == len(marks) or marks[at] != marks[first]:
            many += merge_count(list(keys[first:at]))[1]
            first = at
    return many


def counts(house, block, plan, path=()):
    """A dict of paths to (given, spent) of a run that was pulled to its end; no limits."""
    word = plan[0]
    if word == "give":
        return give_counts(house, block, plan, path)
    found = {}
    given = len(rows(house, block, plan))
    if word in ("scan", "walk", "seek", "inner"):
        spent, found = leaf_counts(house, block, plan, path)
        return {path: (given, spent), **found}
    found = counts(house, block, plan[1], path + (0,))
    below = rows(house, block, plan[1])
    state, order, _ = slow.judge(block, plan[1])
    marks = sorted(slow.seen(block, state))
    if word in ("bag", "stream"):
        spent = (2 if word == "bag" else 1) * len(below)
    elif word == "sort":
        keys = [[rank(row[0][marks.index(mark)]) for mark in plan[2]] for row in below]
        spent = len(below) + stretch_count([key[:len(slow.prefix(order, plan[2]))] for key in keys], keys)
    elif word == "look":
        spent = len(below) + sum(look_count(house, block, state, plan, left) for left in below)
    else:
        found.update(counts(house, block, plan[2], path + (1,)))
        spent = join_count(house, block, plan, (state, order), below)
    return {path: (given, spent), **found}


def leaf_counts(house, block, plan, path):
    unit = block.units[plan[1]]
    if plan[0] == "inner":
        found = counts(house, unit.source, plan[2], path + (0,))
        return found[path + (0,)][0], found
    many = len(house.rows_of_table(unit.source))
    if plan[0] != "seek":
        return (1 if plan[0] == "scan" else 2) * many, {}
    places = dict(unit.indexed)[plan[2]][:plan[3]]
    values = [told_values(block, plan[1])[dict(unit.cols)[place]] for place in places]
    at, looks, is_more = found_entries(house, unit, plan[2], values)
    return looks + 2 * len(at) + is_more, {}


def look_count(house, block, state, plan, left):
    """What a look counts for one left row, but for the row itself."""
    unit = block.units[plan[2]]
    values = look_values(block, state, plan, left)
    if None in values:
        return 0
    at, looks, is_more = found_entries(house, unit, plan[3], values)
    sight = Sight(block, state, slow.as_unit(block, plan[2]))
    if sight.kind in ("semi", "anti"):
        for many, one in enumerate(at):
            row = taken(block, plan[2], house.rows_of_table(unit.source)[one])
            if row is not None and sight.fits(left, row):
                return looks + 2 * (many + 1)
    return looks + 2 * len(at) + is_more


def join_count(house, block, plan, left_child, below):
    word = plan[0]
    state, order = left_child
    right, right_order, _ = slow.judge(block, plan[2])
    rights = rows(house, block, plan[2])
    sight = Sight(block, state, right)
    if right[0] == "side":
        pairs = slow.pairs(block, right[1])
    else:
        pairs = {(mark, mark) for mark in sight.marks[0] if mark in sight.marks[1]}
    if word == "loop":
        pairs = set()
    if word == "merge":
        pairs = {(order[0], right_order[0])}
    many = 0
    for left in below:
        one = dict(zip(sight.marks[0], left[0]))
        for row in rights:
            other = dict(zip(sight.marks[1], row[0]))
            if all(one[a] is not None and one[a] == other[b] for a, b in pairs):
                many += 1
                if sight.kind in ("semi", "anti") and sight.fits(left, row):
                    break
    return len(below) + (2 if word == "hash" else 1) * len(rights) + many


def give_counts(house, block, top, path):
    found = counts(house, block, top[1], path + (0,))
    state, order, _ = slow.judge(block, top[1])
    spent = found[path + (0,)][0]
    pairs = outputs(house, block, top)
    if len(top) == 3:
        matched = slow.prefix(order, slow.way(block)[0])
        marks = sorted(slow.seen(block, state))
        alike = [[row[0][marks.index(mark)] for mark in matched] for row, _ in pairs]
        spent += stretch_count(alike, [wanted_key(block, out) for _, out in pairs])
    return {path: (len(pairs), spent), **found}
