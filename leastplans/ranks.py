"""By what values are put in sequence, and which are alike."""


def rank(value):
    """The rank of a value: null ahead of all others."""
    return (0,) if value is None else (1, value)


def rank_row(row, places):
    """The ranks of the values of a row at places."""
    return tuple([rank(row[place]) for place in places])


def alike(one, other):
    """True if both are null or both are the same."""
    return isinstance(one, bool) == isinstance(other, bool) and one == other


def equal(one, other):
    """True if both are the same and not null."""
    return one is not None and alike(one, other)
