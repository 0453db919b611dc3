"""Reading conditions and questions."""

from leastplans.errors import TooMuch
from leastplans.exprreading import col_from, expr_from
from leastplans.reading import Reading
from leastplans.words import words_of

COMPARISONS = ("=", "<>", "<", "<=", ">", ">=")
MOST_LISTED = 8
MOST_WITHS = 4
MOST_DEEP = 3


def read_cond(text):
    """The tree of a text that is one condition."""
    reading = Reading(words_of(text))
    cond = cond_from(reading)
    reading.end()
    return cond


def read_question(text):
    """The tree of a text that is one question."""
    reading = Reading(words_of(text))
    question = question_from(reading)
    reading.end()
    return question


def cond_from(reading):
    """The tree of the condition that begins with the word in hand."""
    cond = both_from(reading)
    while reading.stands("or"):
        reading.take()
        cond = ("or", cond, both_from(reading))
    return cond


def both_from(reading):
    cond = one_from(reading)
    while reading.stands("and"):
        reading.take()
        cond = ("and", cond, one_from(reading))
    return cond


def one_from(reading):
    if reading.stands_one(("not", "maybe")):
        return under_from(reading)
    if reading.stands("["):
        return square_from(reading)
    if reading.stands("exists"):
        return exists_from(reading)
    return about_from(reading)


def under_from(reading):
    """A not or maybe ahead of a condition."""
    tag = reading.enter(reading.look()[1])
    cond = one_from(reading)
    reading.leave()
    return (tag, cond)


def square_from(reading):
    reading.enter("[")
    cond = cond_from(reading)
    reading.expect("]")
    reading.leave()
    return cond


def exists_from(reading):
    reading.expect("exists")
    reading.enter("(")
    sources = sources_from(reading)
    where = clause_from(reading, "where")
    reading.expect(")")
    reading.leave()
    return ("exists", sources, where)


def about_from(reading):
    """A condition that begins with an expression."""
    expr = expr_from(reading)
    if reading.stands_one(COMPARISONS):
        op = reading.take()
        return ("cmp", op, expr, expr_from(reading))
    if reading.stands("is"):
        reading.take()
        is_not = taken(reading, "not")
        reading.expect("null")
        cond = ("null", expr)
    else:
        is_not = taken(reading, "not")
        reading.expect("in")
        cond = ("in", expr, inner_from(reading))
    return ("not", cond) if is_not else cond


def taken(reading, value):
    """Takes a word that may be left out; True if it stood there."""
    if not reading.stands(value):
        return False
    reading.take()
    return True


def inner_from(reading):
    """A question in brackets."""
    if reading.stands("(") and reading.deep >= MOST_DEEP:
        raise TooMuch("depth")
    reading.expect("(")
    question = question_from(reading)
    reading.expect(")")
    return question


def question_from(reading):
    """The tree of the question that begins with the word in hand."""
    around = reading.aggs
    reading.aggs = ()
    reading.deep += 1
    withs = list_behind(reading, ("with",), "withs", MOST_WITHS, with_from)
    reading.expect("select")
    distinct = taken(reading, "distinct")
    items = list_from(reading, "items", MOST_LISTED, item_from)
    sources = sources_from(reading)
    where = clause_from(reading, "where")
    groups = list_behind(reading, ("group", "by"), "groups", MOST_LISTED, col_from)
    having = clause_from(reading, "having")
    orders = list_behind(reading, ("order", "by"), "orders", MOST_LISTED, order_from)
    limit = limit_from(reading)
    reading.deep -= 1
    reading.aggs = around
    return ("question", withs, distinct, items, sources, where, groups, having, orders, limit)


def list_behind(reading, heads, what, most, one):
    """A list behind its reserved words, () if the first one does not stand there."""
    if not reading.stands(heads[0]):
        return ()
    for head in heads:
        reading.expect(head)
    return list_from(reading, what, most, one)


def list_from(reading, what, most, one):
    """Things parted by commas; one reads one of them."""
    things = [one(reading)]
    while reading.stands(","):
        if len(things) >= most:
            raise TooMuch(what)
        reading.take()
        things.append(one(reading))
    return tuple(things)


def clause_from(reading, head):
    """A condition behind its reserved word, None if this does not stand there."""
    if not taken(reading, head):
        return None
    return cond_from(reading)


def with_from(reading):
    name = reading.take_name()
    reading.expect("as")
    return (name, inner_from(reading))


def item_from(reading):
    begun = reading.at
    expr = expr_from(reading)
    # a column in brackets is no column of the grammar: it needs a name, as other expressions do
    if expr[0] == "col" and reading.at == begun + 3 and not reading.stands("as"):
        return (expr, expr[2])
    reading.expect("as")
    return (expr, reading.take_name())


def sources_from(reading):
    reading.expect("from")
    what, alias = source_from(reading)
    sources = [("from", what, alias, None)]
    while reading.stands_one((",", "join", "left")):
        if len(sources) >= MOST_LISTED:
            raise TooMuch("sources")
        sources.append(more_from(reading))
    return tuple(sources)


def source_from(reading):
    """What stands in a source, and its alias."""
    if reading.stands("("):
        question = inner_from(reading)
        return (question, reading.take_name())
    name = reading.take_name()
    if reading.look()[0] == "name":
        return (("named", name), reading.take())
    return (("named", name), name)


def more_from(reading):
    """A source that is not the first one."""
    how = reading.take()
    if how == ",":
        what, alias = source_from(reading)
        return ("cross", what, alias, None)
    if how == "left":
        reading.expect("join")
    what, alias = source_from(reading)
    reading.expect("on")
    return (how, what, alias, cond_from(reading))


def order_from(reading):
    name = reading.take_name()
    if reading.stands_one(("asc", "desc")):
        return (name, reading.take())
    return (name, "asc")


def limit_from(reading):
    if not taken(reading, "limit"):
        return None
    if reading.look()[0] != "number":
        reading.bad()
    return reading.take()
