"""Comparisons = of leaves: columns ("col", u, c) or marks ("mark", m)."""


def leaf_and_value(cond, tag):
    """(leaf, value) of a comparison = of a leaf with a number or text, on either side, or None."""
    if cond[0] != "cmp" or cond[1] != "=":
        return None
    _, _, left, right = cond
    if left[0] == tag and right[0] in ("num", "text"):
        return (left, right[1])
    if right[0] == tag and left[0] in ("num", "text"):
        return (right, left[1])
    return None


def two_leaves(cond, tag):
    """The two sides of a comparison = of two leaves, or None."""
    if cond[0] != "cmp" or cond[1] != "=" or cond[2][0] != tag or cond[3][0] != tag:
        return None
    return (cond[2], cond[3])
