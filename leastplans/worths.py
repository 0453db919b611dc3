"""Values and truths of expressions and conditions over marks."""

from leastplans.meanings import reckoned, truth_joined
from leastplans.trees import reduced
from leastplans.truths import compared

LINKS = ("not", "maybe", "and", "or")


def mark_value(expr, worth, folds):
    """The value of an expression, worth[m] standing for a mark, folds[i] for an agg."""
    def step(one, sides):
        return worth_of_one(one, sides, worth, folds)

    return reduced(expr, step)


def mark_truth(cond, worth, folds):
    """The truth of a condition, likewise."""
    def step(one, sides):
        if one[0] == "cmp":
            return compared(one[1], sides[0], sides[1])
        if one[0] == "null":
            return sides[0] is None
        if one[0] in LINKS:
            return truth_joined(one[0], sides)
        return worth_of_one(one, sides, worth, folds)

    return reduced(cond, step)


def worth_of_one(expr, sides, worth, folds):
    """The value of an expression whose parts have the values sides."""
    if expr[0] in ("num", "text"):
        return expr[1]
    if expr[0] == "mark":
        return worth[expr[1]]
    if expr[0] == "agg":
        return folds[expr[1]]
    return None if None in sides else reckoned(expr[0], sides)
