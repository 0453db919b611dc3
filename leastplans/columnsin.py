"""The columns and aggs that stand in an expression or condition."""

from leastplans.trees import parts_of, rebuilt


def columns_in(thing):
    """The columns of an expression or condition, each once, those in aggs too."""
    found = []
    for leaf in leaves_of(thing):
        for column in columns_at(leaf):
            if column not in found:
                found.append(column)
    return tuple(found)


def aggs_in(thing):
    """The aggs of an expression or condition, each once."""
    found = []
    for leaf in leaves_of(thing):
        if leaf[0] == "agg" and leaf not in found:
            found.append(leaf)
    return tuple(found)


def replaced(thing, table):
    """The same with table[x] in the place of each column or agg x that is a key of table."""
    if thing is None:
        return None

    def change(one):
        return one if parts_of(one) else leaf_replaced(one, table)

    return rebuilt(thing, change)


def leaf_replaced(leaf, table):
    """What stands for a column or agg; everything else stays."""
    if leaf[0] == "col":
        return table.get(leaf, leaf)
    if leaf[0] != "agg":
        return leaf
    if leaf in table:
        return table[leaf]
    return tuple([table.get(piece, piece) if is_column(piece) else piece for piece in leaf])


def leaves_of(thing):
    """What has no parts in an expression or condition, from left to right."""
    found = []
    waiting = [] if thing is None else [thing]
    while waiting:
        one = waiting.pop()
        below = parts_of(one)
        waiting.extend(below[::-1])
        if not below:
            found.append(one)
    return found


def columns_at(leaf):
    """The column that a leaf is, or that its agg has."""
    if leaf[0] == "col":
        return [leaf]
    if leaf[0] == "agg":
        return [piece for piece in leaf if is_column(piece)]
    return []


def is_column(piece):
    return isinstance(piece, tuple) and piece[0] == "col"
