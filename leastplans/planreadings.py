"""Reading the texts of plans."""

from leastplans.errors import BadPlanText
from leastplans.planshapes import CHILDREN, MEMBERS
from leastplans.words import FIGURES, is_name

MOST_FIGURES = 60


class Line:
    """A line of a text of a plan: a word, its told members, and the sorts of all its members."""

    def __init__(self, word, told, sorts):
        self.word = word
        self.told = told
        self.sorts = sorts


def read_plan(text):
    """The top with a text; raises the number of the first line that cannot stand there."""
    rows = text.split("\n")
    found = []
    waiting = [(0, "t")]
    for at, row in enumerate(rows):
        if not waiting:
            raise BadPlanText(at)
        deep, sort = waiting.pop()
        line = line_of(row, deep, sort)
        if line is None:
            raise BadPlanText(at)
        found.append(line)
        below = [one for one in line.sorts if one in CHILDREN]
        waiting.extend([(deep + 1, one) for one in below[::-1]])
    if waiting:
        raise BadPlanText(len(rows))
    return put_together(found)


def line_of(row, deep, sort):
    """The Line of a row of a text that stands so deep, None if it cannot stand there."""
    blanks = "  " * deep
    if not row.startswith(blanks):
        return None
    words = row[len(blanks):].split(" ")
    if sort == "t":
        if words[0] != "give" or words[1:] not in ([], ["sorted"]):
            return None
        return Line("give", words[1:], "pi"[:len(words)])
    if words[0] not in MEMBERS:
        return None
    told = told_members(MEMBERS[words[0]], words[1:])
    return None if told is None else Line(words[0], told, MEMBERS[words[0]])


def told_members(sorts, words):
    """The members but plans and tops that words tell, None if they do not tell just these."""
    wanted = [sort for sort in sorts if sort not in CHILDREN]
    if wanted == ["w"]:
        return [tuple([int(word) for word in words])] if all(is_told_number(word) for word in words) else None
    if len(wanted) != len(words):
        return None
    told = []
    for sort, word in zip(wanted, words):
        if not (is_name(word) if sort == "i" else is_told_number(word)):
            return None
        told.append(word if sort == "i" else int(word))
    return told


def is_told_number(word):
    """True for 0, and for one to sixty figures with no 0 in front."""
    if word == "" or len(word) > MOST_FIGURES or any(one not in FIGURES for one in word):
        return False
    return word == "0" or word[0] != "0"


def put_together(found):
    """The top whose nodes are these lines, each ahead of what stands below it."""
    made = []
    for line in found[::-1]:
        # what stands below a line has been made, its first child last
        told = list(line.told)
        node = [line.word]
        for sort in line.sorts:
            node.append(made.pop() if sort in CHILDREN else told.pop(0))
        made.append(tuple(node))
    return made[0]
