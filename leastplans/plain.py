"""What is an integer and a number."""


def is_integer(thing):
    """True for an int that is not a bool."""
    return isinstance(thing, int) and not isinstance(thing, bool)


def is_number_to(thing, most):
    """True for an integer that is at least 0 and at most this."""
    return is_integer(thing) and 0 <= thing <= most


def same_value(one, other):
    """True if both are the same throughout: True is not 1, and a list is no tuple."""
    if isinstance(one, tuple) and isinstance(other, tuple):
        return len(one) == len(other) and all(same_value(a, b) for a, b in zip(one, other))
    if isinstance(one, (tuple, list)) or isinstance(other, (tuple, list)):
        return False
    return isinstance(one, bool) == isinstance(other, bool) and one == other
