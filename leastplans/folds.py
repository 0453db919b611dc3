"""Folds of aggs: of one value, of two folds, of a fold that counts several times."""


def single(fn, value):
    """The fold of one value."""
    if fn == "count":
        return 0 if value is None else 1
    return value


def added(fn, one, other):
    """The fold of what two folds are of; null counts for nothing, and an agg that is not there stays None."""
    if one is None or other is None:
        return other if one is None else one
    if fn in ("count", "sum"):
        return one + other
    return min(one, other) if fn == "min" else max(one, other)


def scaled(fn, weight, fold):
    """The fold of what a fold is of, so many times."""
    if fold is None or fn in ("min", "max"):
        return fold
    return weight * fold


def empty(fn):
    """The fold of nothing but null."""
    return single(fn, None)
