"""Values and truths of expressions and conditions over marks."""

from leastplans.meanings import reckoned, truth_joined
from leastplans.trees import parts_of
from leastplans.truths import compared


def mark_value(expr, worth, folds):
    """The value of an expression, worth[m] standing for a mark, folds[i] for an agg."""
    if expr[0] in ("num", "text"):
        return expr[1]
    if expr[0] == "mark":
        return worth[expr[1]]
    if expr[0] == "agg":
        return folds[expr[1]]
    sides = [mark_value(part, worth, folds) for part in parts_of(expr)]
    return None if None in sides else reckoned(expr[0], sides)


def mark_truth(cond, worth, folds):
    """The truth of a condition, likewise."""
    if cond[0] == "cmp":
        left = mark_value(cond[2], worth, folds)
        return compared(cond[1], left, mark_value(cond[3], worth, folds))
    if cond[0] == "null":
        return mark_value(cond[1], worth, folds) is None
    sides = [mark_truth(part, worth, folds) for part in parts_of(cond)]
    return truth_joined(cond[0], sides)
