"""Reading expressions."""

from leastplans.reading import Reading
from leastplans.words import words_of

AGG_WORDS = ("count", "sum", "min", "max")
SUM_TAGS = {"+": "add", "-": "sub"}


def read_expr(text):
    """The tree of a text that is one expression."""
    reading = Reading(words_of(text))
    expr = expr_from(reading)
    reading.end()
    return expr


def expr_from(reading):
    """The tree of the expression that begins with the word in hand."""
    expr = term_from(reading)
    while reading.stands_one(("+", "-")):
        tag = SUM_TAGS[reading.take()]
        expr = (tag, expr, term_from(reading))
    return expr


def term_from(reading):
    term = factor_from(reading)
    while reading.stands("*"):
        reading.take()
        term = ("mul", term, factor_from(reading))
    return term


def factor_from(reading):
    kind = reading.look()[0]
    if kind == "number":
        return ("num", reading.take())
    if kind == "text":
        return ("text", reading.take())
    if reading.stands_one(AGG_WORDS):
        return agg_from(reading)
    if reading.stands("-"):
        return neg_from(reading)
    if reading.stands("("):
        return bracket_from(reading)
    return col_from(reading)


def neg_from(reading):
    reading.enter("-")
    factor = factor_from(reading)
    reading.leave()
    return ("neg", factor)


def bracket_from(reading):
    reading.enter("(")
    expr = expr_from(reading)
    reading.expect(")")
    reading.leave()
    return expr


def col_from(reading):
    """The tree of the column that begins with the word in hand."""
    alias = reading.take_name()
    reading.expect(".")
    return ("col", alias, reading.take_name())


def agg_from(reading):
    fn = reading.take()
    reading.expect("(")
    if fn == "count" and reading.stands("*"):
        reading.take()
        column = None
    else:
        column = col_from(reading)
    agg = ("agg", fn, column)
    reading.end_agg(agg)
    return agg
