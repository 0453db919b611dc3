"""What can be told of a question from its tree alone."""

from leastplans.columnsin import aggs_in


def output_names(question):
    """The names of the outputs, from left to right."""
    items = question[3]
    return tuple([name for _, name in items])


def is_grouped(question):
    """True if a question has group by, having or an agg."""
    _, _, _, items, _, _, groups, having, _, _ = question
    return groups != () or having is not None or any(aggs_in(expr) != () for expr, _ in items)


def placed_orders(question):
    """The orders, each as a pair (place of the output, "asc" or "desc")."""
    names = output_names(question)
    orders = question[8]
    return tuple([(names.index(name), way) for name, way in orders])
