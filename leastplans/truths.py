"""Truths: True, False, and None for unknown."""


def negated(t):
    """not t."""
    return None if t is None else not t


def perhaps(t):
    """maybe t."""
    return t is not False


def both(s, t):
    """s and t."""
    if s is False or t is False:
        return False
    return None if s is None or t is None else True


def either(s, t):
    """s or t."""
    if s is True or t is True:
        return True
    return None if s is None or t is None else False


def compared(op, one, other):
    """The truth of a comparison of two values of one kind, or null."""
    if one is None or other is None:
        return None
    if op == "=":
        return one == other
    if op == "<>":
        return one != other
    if op == "<":
        return one < other
    if op == "<=":
        return one <= other
    if op == ">":
        return one > other
    return one >= other
