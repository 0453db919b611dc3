"""What is an integer and a number."""


def is_integer(thing):
    """True for an int that is not a bool."""
    return isinstance(thing, int) and not isinstance(thing, bool)


def is_number_to(thing, most):
    """True for an integer that is at least 0 and at most this."""
    return is_integer(thing) and 0 <= thing <= most
