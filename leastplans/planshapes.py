"""The form of plans and tops: tuples of a word and its members."""

from leastplans.plain import is_integer

# of each word what its members are: p a plan, t a top, u and k numbers, i a string, w marks
MEMBERS = {
    "scan": "u", "walk": "ui", "seek": "uik", "inner": "ut", "sort": "pw", "loop": "pp",
    "hash": "pp", "merge": "pp", "look": "puik", "bag": "p", "stream": "p",
}
CHILDREN = ("p", "t")


def shape_of(plan):
    """The path of the first node of a plan that is not formed, or None."""
    return first_unformed(plan, "p")


def top_shape(top):
    """The same of a top."""
    return first_unformed(top, "t")


def first_unformed(thing, sort):
    waiting = [((), thing, sort)]
    while waiting:
        path, node, sort = waiting.pop()
        if not is_formed(node, sort):
            return path
        below = children_of(node)
        for at in range(len(below) - 1, -1, -1):
            waiting.append((path + (at,), below[at][1], below[at][0]))
    return None


def nodes_of(thing):
    """Pairs (path, node) of all nodes of a formed plan or top, in their sequence."""
    found = []
    waiting = [((), thing)]
    while waiting:
        path, node = waiting.pop()
        found.append((path, node))
        below = children_of(node)
        for at in range(len(below) - 1, -1, -1):
            waiting.append((path + (at,), below[at][1]))
    return found


def sorts_of_members(node):
    """What the members of a formed node are, a letter each."""
    return "p" if node[0] == "give" else MEMBERS[node[0]]


def children_of(node):
    """The children of a formed node with their sorts."""
    told = list(zip(sorts_of_members(node), node[1:]))
    return [(sort, member) for sort, member in told if sort in CHILDREN]


def is_formed(node, sort):
    """True if a node is formed that is to be a plan or a top; children are not looked at."""
    if not isinstance(node, tuple) or node == () or not isinstance(node[0], str):
        return False
    if sort == "t":
        return node[0] == "give" and (len(node) == 2 or is_sorted_give(node))
    sorts = MEMBERS.get(node[0])
    if sorts is None or len(node) != len(sorts) + 1:
        return False
    return all([is_member(one, member) for one, member in zip(sorts, node[1:])])


def is_sorted_give(node):
    return len(node) == 3 and isinstance(node[2], str) and node[2] == "sorted"


def is_member(sort, member):
    if sort in CHILDREN:
        return True
    if sort == "i":
        return isinstance(member, str)
    if sort == "w":
        return isinstance(member, tuple) and all(is_number(mark) for mark in member)
    return is_number(member)


def is_number(thing):
    return is_integer(thing) and thing >= 0
