"""Opening runs of plans and tops."""

from leastplans.joinsteps import first_pair
from leastplans.judging import LEAVES, nodes_told
from leastplans.leafsteps import index_places, leaf_state
from leastplans.listjoins import JoinSight
from leastplans.lookups import Asker, seek_values
from leastplans.rungives import GiveRun
from leastplans.runjoins import HashRun, LoopRun, MergeRun
from leastplans.runleaves import InnerRun, ScanRun, SeekRun, WalkRun
from leastplans.runlooks import LookRun
from leastplans.runsorts import SortRun
from leastplans.runsqueezes import BagRun, StreamRun
from leastplans.squeezing import Giver, Squeezer
from leastplans.states import units_of
from leastplans.takings import Taker
from leastplans.wantings import begin_alike, matched


def open_run(house, block, plan):
    """A run of a plan that is let."""
    return run_at(house, nodes_told(block, plan), ())


def open_top(house, block, top):
    """A run of a top that is let."""
    return run_at(house, nodes_told(block, top), ())


def line_runs(run):
    """Pairs (path, run), one for each step: the run, then those below it, from left to right."""
    found = []
    waiting = [((), run)]
    while waiting:
        path, one = waiting.pop()
        found.append((path, one))
        for at in range(len(one.children) - 1, -1, -1):
            waiting.append((path + (at,), one.children[at]))
    return found


def run_at(house, found, path):
    """A run of the node at a path; found has what is told of each node."""
    told = found[path]
    node = told.node
    if node[0] in LEAVES:
        return leaf_run(house, told.sizes, node)
    below = found[path + (0,)]
    child = run_at(house, found, path + (0,))
    if node[0] == "give":
        return give_run(told, below, child)
    if node[0] == "inner":
        return InnerRun(Taker(told.sizes.block, node[1]), child)
    if node[0] == "look":
        return look_run(house, told.sizes, below.state, node, child)
    if node[0] in ("sort", "bag", "stream"):
        return one_run(told, below, child)
    other = found[path + (1,)]
    return join_run(told, below, other, child, run_at(house, found, path + (1,)))


def leaf_run(house, sizes, node):
    """A run of a scan, walk or seek."""
    unit = sizes.block.units[node[1]]
    taker = Taker(sizes.block, node[1])
    rows = house.rows_of_table(unit.source)
    if node[0] == "scan":
        return ScanRun(taker, rows)
    entries = house.entries_of_index(unit.source, node[2])
    if node[0] == "walk":
        return WalkRun(taker, rows, entries)
    places = index_places(unit, node[2])[:node[3]]
    told = seek_values(sizes, node[1], node[2], node[3])
    return SeekRun(taker, rows, entries, places, told)


def look_run(house, sizes, left_state, node, child):
    """A run of a look over the run of its plan."""
    _, _, u, ixname, many = node
    unit = sizes.block.units[u]
    return LookRun(
        JoinSight(sizes, left_state, leaf_state(sizes, u)), Asker(sizes, left_state, u, ixname, many),
        Taker(sizes.block, u), house.rows_of_table(unit.source),
        house.entries_of_index(unit.source, ixname), index_places(unit, ixname)[:many], child)


def one_run(told, below, child):
    """A run of a sort, bag or stream over the run of its plan."""
    marks = told.sizes.seen_at(below.state)
    if told.node[0] == "sort":
        order = told.node[2]
        places = [marks.index(mark) for mark in order]
        return SortRun(places, begin_alike(below.order, order), child)
    squeezer = Squeezer(told.sizes, units_of(below.state), marks)
    return BagRun(squeezer, child) if told.node[0] == "bag" else StreamRun(squeezer, child)


def join_run(told, one, other, left, right):
    """A run of a loop, hash or merge over the runs of its plans."""
    sight = JoinSight(told.sizes, one.state, other.state)
    if told.node[0] == "loop":
        return LoopRun(sight, left, right)
    if told.node[0] == "hash":
        return HashRun(sight, left, right)
    first, second = first_pair(one.order, other.order)
    left_place = told.sizes.seen_at(one.state).index(first)
    right_place = told.sizes.seen_at(other.state).index(second)
    return MergeRun(sight, left, right, left_place, right_place)


def give_run(told, below, child):
    """A run of a give over the run of its plan."""
    block = told.sizes.block
    marks = told.sizes.seen_at(below.state)
    places = [marks.index(mark) for mark in below.order[:matched(block, below.order)]]
    return GiveRun(Giver(block, marks), len(told.node) == 3, places, child)
