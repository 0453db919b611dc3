"""Blocks: what questions are brought to before they are planned."""

from leastplans.checking import checked
from leastplans.columnsin import replaced
from leastplans.errors import TooMuch
from leastplans.factkinds import told_facts
from leastplans.inward import copied_in
from leastplans.marking import classes_of, fixed_of, mentioned
from leastplans.marks import marks_in_all
from leastplans.merging import each_once, has_room
from leastplans.putting import put_in
from leastplans.raising import raw_of
from leastplans.raws import is_table, with_other
from leastplans.turning import is_of_rows


class Unit:
    """A unit of a block; its source is the name of a table or a Block."""

    def __init__(self, kind, source, wide, cols, own, ties, need, told, lies, indexed):
        self.kind = kind
        self.source = source
        self.wide = wide
        self.cols = cols
        self.own = own
        self.ties = ties
        self.need = need
        self.told = told
        self.lies = lies
        self.indexed = indexed


class Block:
    """A block; its conditions and expressions hold ("mark", m) and ("agg", i)."""

    def __init__(self, units, fixed, tests, groups, grouped, aggs, having, outs, outnames,
                 outkinds, orders, limit, listed):
        self.units = units
        self.fixed = fixed
        self.tests = tests
        self.groups = groups
        self.grouped = grouped
        self.aggs = aggs
        self.having = having
        self.outs = outs
        self.outnames = outnames
        self.outkinds = outkinds
        self.orders = orders
        self.limit = limit
        self.listed = listed

    def bare(self):
        """True if the block is grouped without a list of groups."""
        return self.grouped and self.groups == ()


def block_of(house, question):
    """The block of a question; raises what is wrong with it, or that it is too large."""
    checked(house, question)
    raw = raw_of(house, put_in(house, question), True)
    check_units(raw)
    return made_block(house, raw)


def check_units(raw):
    """Raises if a block has too many units."""
    if not has_room(raw, len(raw.units)):
        raise TooMuch("units")
    for unit in raw.units:
        if not is_table(unit.source):
            check_units(unit.source)


def made_block(house, raw):
    """The Block of a raw block."""
    fixed, tests = fixed_of(raw)
    classes = classes_of(raw)
    copies = copied_in(raw, classes, (fixed, tests))
    marks = marks_of(raw, classes)
    units = [made_unit(house, raw, u, marks, copies[u]) for u in range(len(raw.units))]
    groups = each_once([marks[column][1] for column in raw.groups])
    return Block(
        tuple(units), tuple([(marks[("col",) + column][1], value) for column, value in fixed]),
        all_marked(tests, marks), groups, raw.grouped, raw.aggs, all_marked(raw.having, marks),
        all_marked(raw.outs, marks), raw.outnames, raw.outkinds, raw.orders, raw.limit, raw.listed)


def marks_of(raw, classes):
    """A dict of the mentioned columns ("col", u, c) to ("mark", m)."""
    numbers = {column: number for number, column in enumerate(mentioned(raw))}
    found = {}
    for one in classes:
        for column in one:
            found[("col",) + column] = ("mark", numbers[one[0]])
    return found


def all_marked(things, marks):
    return tuple([replaced(thing, marks) for thing in things])


def made_unit(house, raw, u, marks, copies):
    """The Unit of a raw unit; copies go into its source, if that is a block."""
    unit = raw.units[u]
    cols = tuple(sorted([(column[2], marks[column][1]) for column in marks if column[1] == u]))
    own_marks = [mark for _, mark in cols]
    conds = all_marked(unit.conds, marks)
    own = tuple([cond for cond in conds if is_within(cond, own_marks)])
    ties = tuple([cond for cond in conds if not is_within(cond, own_marks)])
    need = tuple([mark for mark in marks_in_all(ties) if mark not in own_marks])
    if not is_table(unit.source):
        inner = made_block(house, with_copies(unit.source, copies))
        return Unit(unit.kind, inner, len(inner.outs), cols, own, ties, need, (), (), ())
    name = unit.source[1]
    columns = house.columns_of(name)
    told = told_facts(columns, house.facts_of(name))
    return Unit(
        unit.kind, name, len(columns), cols, own, ties, need, told, house.lies_of(name),
        house.indexes_of(name))


def is_within(cond, own_marks):
    """True if a condition has no marks but these."""
    return all(mark in own_marks for mark in marks_in_all((cond,)))


def with_copies(raw, copies):
    """A raw block that keeps conditions over its outputs, ("col", 0, c), as well."""
    table = {("col", 0, place): out for place, out in enumerate(raw.outs)}
    tests = []
    having = []
    for cond in all_marked(copies, table):
        if not raw.grouped or is_of_rows(cond):
            tests.append(cond)
        else:
            having.append(cond)
    return with_other(raw, raw.units, raw.tests + tuple(tests), raw.having + tuple(having))
