"""The parts of expressions and conditions.

Trees can be as deep as a list of conditions is long, so nothing here goes into them by recursion.
"""

# where the expressions and conditions stand in a tree: the first place, and that behind the last
PART_PLACES = {
    "add": (1, 3), "sub": (1, 3), "mul": (1, 3), "neg": (1, 2),
    "cmp": (2, 4), "null": (1, 2), "in": (1, 2),
    "not": (1, 2), "maybe": (1, 2), "and": (1, 3), "or": (1, 3),
}
NO_PLACES = (1, 1)


def parts_of(thing):
    """The expressions and conditions just below one, from left to right."""
    first, behind = PART_PLACES.get(thing[0], NO_PLACES)
    return thing[first:behind]


def with_parts(thing, new_parts):
    """The same with other expressions and conditions just below it."""
    first, behind = PART_PLACES.get(thing[0], NO_PLACES)
    return thing[:first] + tuple(new_parts) + thing[behind:]


def reduced(thing, step):
    """What step(one, results) gives at last: results are what it gave of the parts of one."""
    nodes = [thing]
    firsts = []
    at = 0
    while at < len(nodes):
        firsts.append(len(nodes))
        nodes.extend(parts_of(nodes[at]))
        at += 1
    # parts stand behind what they are parts of, so from the end on they are made when asked for
    made = [None] * len(nodes)
    for at in range(len(nodes) - 1, -1, -1):
        many = len(parts_of(nodes[at]))
        made[at] = step(nodes[at], made[firsts[at]:firsts[at] + many])
    return made[0]


def rebuilt(thing, change):
    """The same with change(one) in the place of each expression and condition in it, parts first."""
    def step(one, new_parts):
        return change(with_parts(one, new_parts))

    return reduced(thing, step)


def members(cond):
    """The members of a condition, from left to right."""
    found = []
    waiting = [] if cond is None else [cond]
    while waiting:
        one = waiting.pop()
        if one[0] == "and":
            waiting.append(one[2])
            waiting.append(one[1])
        else:
            found.append(one)
    return tuple(found)


def joined(conds):
    """The and of conditions, None if there are none."""
    if not conds:
        return None
    whole = conds[0]
    for cond in conds[1:]:
        whole = ("and", whole, cond)
    return whole


def height(thing):
    """How many expressions and conditions stand one below another, at most."""
    many = 0
    level = [] if thing is None else [thing]
    while level:
        many += 1
        level = [part for one in level for part in parts_of(one)]
    return many
