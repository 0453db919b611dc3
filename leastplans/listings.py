"""The rows of plans, told at once."""

from leastplans.entries import stretch
from leastplans.judging import LEAVES, nodes_told
from leastplans.leafsteps import index_places, leaf_state
from leastplans.listjoins import Finder, JoinSight
from leastplans.lookups import Asker, seek_values
from leastplans.ordering import in_order
from leastplans.ranks import rank_row
from leastplans.squeezing import Giver, Squeezer
from leastplans.states import units_of
from leastplans.takings import Taker, rows_taken


def rows_of(house, block, plan):
    """The weighted rows of a plan that is let."""
    return rows_at(house, nodes_told(block, plan), ())


def answer_of(house, block, top):
    """The rows of outputs of a top that is let."""
    return answer_at(house, nodes_told(block, top), ())


def rows_at(house, found, path):
    """The rows of the plan at a path; found has what is told of each node."""
    told = found[path]
    node = told.node
    if node[0] in LEAVES:
        return leaf_rows(house, told.sizes, node)
    if node[0] == "inner":
        return rows_taken(told.sizes.block, node[1], answer_at(house, found, path + (0,)))
    left_state = found[path + (0,)].state
    lefts = rows_at(house, found, path + (0,))
    marks = told.sizes.seen_at(left_state)
    if node[0] == "sort":
        return sorted_by(lefts, [marks.index(mark) for mark in node[2]])
    if node[0] in ("bag", "stream"):
        return Squeezer(told.sizes, units_of(left_state), marks).squeezed_rows(lefts)
    if node[0] == "look":
        return looked_up(house, told.sizes, left_state, node, lefts)
    rights = rows_at(house, found, path + (1,))
    sight = JoinSight(told.sizes, left_state, found[path + (1,)].state)
    finder = Finder(sight.shared, rights)
    return [row for left in lefts for row in rows_of_left(sight, left, finder.rows_for(left))]


def leaf_rows(house, sizes, node):
    """The rows of a scan, walk or seek."""
    unit = sizes.block.units[node[1]]
    rows = house.rows_of_table(unit.source)
    if node[0] == "scan":
        return rows_taken(sizes.block, node[1], rows)
    entries = house.entries_of_index(unit.source, node[2])
    if node[0] == "seek":
        places = index_places(unit, node[2])[:node[3]]
        told = seek_values(sizes, node[1], node[2], node[3])
        first, behind, _ = stretch(rows, entries, places, told)
        entries = entries[first:behind]
    return rows_taken(sizes.block, node[1], [rows[at] for at in entries])


def sorted_by(rows, places):
    """Weighted rows by the ranks of the values at places, those alike there in their sequence."""
    ranked = sorted([(rank_row(row[0], places), at) for at, row in enumerate(rows)])
    return [rows[at] for _, at in ranked]


def looked_up(house, sizes, left_state, node, lefts):
    """The rows of a look over a plan with these rows."""
    _, _, u, ixname, many = node
    unit = sizes.block.units[u]
    rows = house.rows_of_table(unit.source)
    entries = house.entries_of_index(unit.source, ixname)
    places = index_places(unit, ixname)[:many]
    taker = Taker(sizes.block, u)
    taken = [taker.row_taken(row) for row in rows]
    sight = JoinSight(sizes, left_state, leaf_state(sizes, u))
    asker = Asker(sizes, left_state, u, ixname, many)
    found = []
    for left in lefts:
        told = asker.values_for(left)
        met = []
        if told is not None:
            first, behind, _ = stretch(rows, entries, places, told)
            met = [taken[at] for at in entries[first:behind] if taken[at] is not None]
        found.extend(rows_of_left(sight, left, met))
    return found


def rows_of_left(sight, left, rights):
    """The rows that a left row gives with the right rows that it may fit."""
    fitting = [right for right in rights if sight.row_fits(left, right)]
    if sight.kind in ("semi", "anti"):
        return [left] if (sight.kind == "semi") == (fitting != []) else []
    if sight.kind == "left" and not fitting:
        made = [sight.row_of_nulls(left)]
    else:
        made = [sight.row_of_both(left, right) for right in fitting]
    return [row for row in made if row is not None]


def answer_at(house, found, path):
    """The rows of outputs of the top at a path."""
    told = found[path]
    block = told.sizes.block
    giver = Giver(block, told.sizes.seen_at(told.state))
    rows = rows_at(house, found, path + (0,))
    if block.bare() and not rows:
        rows = [giver.nothing()]
    made = [giver.output_row(row) for row in rows]
    outs = [row for row in made if row is not None]
    if len(told.node) == 3:
        outs = in_order(outs, block.orders, len(block.outs))
    return outs if block.limit is None else outs[:block.limit]
