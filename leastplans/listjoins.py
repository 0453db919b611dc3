"""How the rows of two plans go together."""

from leastplans.folds import empty, scaled
from leastplans.joinsteps import joined_state, pairs_between
from leastplans.ranks import equal
from leastplans.states import is_side, units_of
from leastplans.worths import mark_truth


class JoinSight:
    """Looks at rows of two states that a loop may join."""

    def __init__(self, sizes, left_state, right_state):
        self.block = sizes.block
        self.kind = "core"
        self.lefts = sizes.seen_at(left_state)
        self.rights = sizes.seen_at(right_state)
        self.right_units = units_of(right_state)
        self.new_tests = new_tests(sizes, left_state, right_state)
        self.ties = ()
        if is_side(right_state):
            unit = self.block.units[right_state[1]]
            self.kind = unit.kind
            self.ties = unit.ties
        self.shared = shared_places(sizes, left_state, right_state)
        self.joined = sizes.seen_at(joined_state(left_state, right_state))

    def row_fits(self, left, right):
        """True if a right row fits a left one."""
        if not all(equal(left[0][one], right[0][other]) for one, other in self.shared):
            return False
        conds = self.new_tests if self.kind == "core" else self.ties
        if not conds:
            return True
        worth = {**self.left_worth(left), **dict(zip(self.rights, right[0]))}
        return all_true(conds, worth)

    def row_of_both(self, left, right):
        """The row of a left row and a right one that fits it; None if a new test is not true on it."""
        if self.kind in ("semi", "anti"):
            return left
        worth = {**self.left_worth(left), **dict(zip(self.rights, right[0]))}
        folds = []
        for at, (fn, u, _) in enumerate(self.block.aggs):
            if u in self.right_units:
                folds.append(scaled(fn, left[1], right[2][at]))
            else:
                folds.append(scaled(fn, right[1], left[2][at]))
        return self.row_made(worth, left[1] * right[1], folds)

    def row_of_nulls(self, left):
        """The row of a left row and nulls; None if a new test is not true on it."""
        worth = {**self.left_worth(left), **{mark: None for mark in self.rights}}
        folds = []
        for at, (fn, u, _) in enumerate(self.block.aggs):
            folds.append(empty(fn) if u in self.right_units else left[2][at])
        return self.row_made(worth, left[1], folds)

    def left_worth(self, left):
        return dict(zip(self.lefts, left[0]))

    def row_made(self, worth, weight, folds):
        """A row of the joined state; new tests of closed states have been looked at before."""
        if self.kind == "left" and not all_true(self.new_tests, worth):
            return None
        return (tuple([worth[mark] for mark in self.joined]), weight, tuple(folds))


def new_tests(sizes, left_state, right_state):
    """The tests that are ready in the units of both states, but not in those of one by itself."""
    left = units_of(left_state)
    right = units_of(right_state)
    old = list(sizes.ready_at(left))
    if not is_side(right_state):
        old.extend(sizes.ready_at(right))
    found = [at for at in sizes.ready_at(tuple(sorted(left + right))) if at not in old]
    return [sizes.block.tests[at] for at in found]


def shared_places(sizes, left_state, right_state):
    """Pairs of places of the values of left and right rows that fit only if they are equal."""
    lefts = sizes.seen_at(left_state)
    rights = sizes.seen_at(right_state)
    pairs = pairs_between(sizes, left_state, right_state)
    return [(lefts.index(one), rights.index(other)) for one, other in pairs]


def all_true(conds, worth):
    return all(mark_truth(cond, worth, ()) is True for cond in conds)


class Finder:
    """Finds right rows by the values that are to be equal to those of a left row."""

    def __init__(self, shared, rights):
        self.firsts = [one for one, _ in shared]
        self.seconds = [other for _, other in shared]
        self.rows_by = {}
        for right in rights:
            key = tuple([right[0][place] for place in self.seconds])
            if None not in key:
                self.rows_by.setdefault(key, []).append(right)

    def rows_for(self, left):
        """The right rows that are equal to a left one at all pairs of places, in sequence."""
        return self.rows_by.get(tuple([left[0][place] for place in self.firsts]), [])
