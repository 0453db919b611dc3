"""The texts of plans."""

from leastplans.planshapes import CHILDREN, nodes_of, sorts_of_members


def plan_text(top):
    """The text of a formed top, a line a node."""
    return "\n".join(["  " * len(path) + words_of_node(node) for path, node in nodes_of(top)])


def words_of_node(node):
    """The words of a node without its children, one blank between."""
    words = [node[0]]
    for sort, member in list(zip(sorts_of_members(node), node[1:])):
        if sort == "w":
            words.extend([str(mark) for mark in member])
        elif sort not in CHILDREN:
            words.append(str(member))
    if len(node) == 3 and node[0] == "give":
        words.append("sorted")
    return " ".join(words)
