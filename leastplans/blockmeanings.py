"""What a block means, by its assignments."""

from leastplans.folding import folded
from leastplans.marks import marks_in_all
from leastplans.ordering import in_order
from leastplans.ranks import equal
from leastplans.unitmarks import has_table, row_marks
from leastplans.worths import mark_truth, mark_value


class Assignment:
    """A row, or NONE, for some units: places by unit, values by mark."""

    def __init__(self, places, worth):
        self.places = places
        self.worth = worth


def means_rows(house, block):
    """Pairs (places, values), one for each assignment of all units."""
    many = len(block.units)
    marks = sorted({mark for u in range(many) for mark in row_marks(block, u)})
    found = []
    for one in assignments(block, source_rows(house, block)):
        places = tuple([one.places.get(u, 0) for u in range(many)])
        found.append((places, tuple([one.worth[mark] for mark in marks])))
    return found


def means(house, block):
    """The meaning of a block, a list of rows."""
    rows_at = source_rows(house, block)
    found = assignments(block, rows_at)
    if block.grouped:
        rows = part_rows(block, rows_at, found)
    else:
        rows = [out_row(block, one.worth, ()) for one in found]
    if block.listed:
        rows = in_order(rows, block.orders, len(block.outs))
    return rows if block.limit is None else rows[:block.limit]


def source_rows(house, block):
    """The rows of the source of each unit."""
    found = []
    for unit in block.units:
        if has_table(unit):
            found.append(house.rows_of_table(unit.source))
        else:
            found.append(means(house, unit.source))
    return found


def assignments(block, rows_at):
    """The assignments of all units, rising by the places of core units, then of left ones."""
    known = [mark for mark, _ in block.fixed]
    found, waiting = tested([Assignment({}, dict(block.fixed))], block.tests, known)
    for kind in ("core", "left", "semi", "anti"):
        for u in [at for at, unit in enumerate(block.units) if unit.kind == kind]:
            if kind == "core":
                longer = with_core(block, u, rows_at[u], found, known)
            else:
                longer = with_attachment(block, u, rows_at[u], found)
            known.extend(row_marks(block, u))
            found, waiting = tested(longer, waiting, known)
    return found


def tested(found, tests, known):
    """Those assignments for which the tests over known marks are true, and the other tests."""
    ready = [test for test in tests if is_among(marks_in_all((test,)), known)]
    waiting = [test for test in tests if not is_among(marks_in_all((test,)), known)]
    return ([one for one in found if all_true(ready, one.worth)], waiting)


def is_among(marks, known):
    return all(mark in known for mark in marks)


def all_true(conds, worth):
    return all(mark_truth(cond, worth, ()) is True for cond in conds)


def with_core(block, u, rows, found, known):
    """The assignments with each row of a core unit that goes with them."""
    cols = block.units[u].cols
    shared = [(place, mark) for place, mark in cols if mark in known]
    # found by the values that are asked for, so that not each row is tried with each assignment
    fitting = {}
    for place, row in enumerate(rows):
        if is_whole(cols, row):
            key = tuple([row[at] for at, _ in shared])
            fitting.setdefault(key, []).append(place)
    longer = []
    for one in found:
        key = tuple([one.worth[mark] for _, mark in shared])
        places = [] if None in key else fitting.get(key, [])
        for place in places:
            longer.append(with_row(one, u, place, row_worth(cols, rows[place])))
    return longer


def is_whole(cols, row):
    """True if any two columns of the row with one mark are equal."""
    worth = row_worth(cols, row)
    many = [mark for _, mark in cols]
    return all(many.count(mark) == 1 or equal(row[place], worth[mark]) for place, mark in cols)


def row_worth(cols, row):
    """A dict of the marks of a row to their values."""
    return {mark: row[place] for place, mark in cols}


def with_row(one, u, place, worth):
    return Assignment({**one.places, u: place}, {**one.worth, **worth})


def with_attachment(block, u, rows, found):
    """The assignments with what an attachment makes of them."""
    unit = block.units[u]
    rows_worth = [(place, row_worth(unit.cols, row)) for place, row in enumerate(rows)]
    let = [(place, worth) for place, worth in rows_worth if all_true(unit.own, worth)]
    nulls = {mark: None for _, mark in unit.cols}
    longer = []
    for one in found:
        fits = [
            (place, worth) for place, worth in let if all_true(unit.ties, {**one.worth, **worth})
        ]
        if unit.kind == "left":
            for place, worth in fits or [(None, nulls)]:
                longer.append(with_row(one, u, place, worth))
        elif (unit.kind == "semi") == (fits != []):
            longer.append(one)
    return longer


def part_rows(block, rows_at, found):
    """The rows of a grouped block, one for each part for which having is true."""
    parts = {}
    if block.bare():
        parts[()] = []
    for one in found:
        key = tuple([one.worth[mark] for mark in block.groups])
        parts.setdefault(key, []).append(one)
    rows = []
    for key in parts:
        worth = {mark: value for mark, value in zip(block.groups, key)}
        folds = [fold_of(agg, rows_at, parts[key]) for agg in block.aggs]
        if all(mark_truth(cond, worth, folds) is True for cond in block.having):
            rows.append(out_row(block, worth, folds))
    return rows


def fold_of(agg, rows_at, part):
    """The fold of an agg over the assignments of a part."""
    fn, u, place = agg
    if u is None:
        return len(part)
    rows = rows_at[u]
    at = [one.places[u] for one in part]
    return folded(fn, [None if one is None else rows[one][place] for one in at])


def out_row(block, worth, folds):
    return tuple([mark_value(out, worth, folds) for out in block.outs])
