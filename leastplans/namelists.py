"""Lists of names."""


def first_twice(names):
    """The first name that stands in the list before, None if each stands there once."""
    for at, name in enumerate(names):
        if name in names[:at]:
            return name
    return None
