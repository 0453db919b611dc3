"""Folds of many values into one."""


def folded(fn, column_values):
    """The count, sum, min or max of the values that are not null."""
    there = [value for value in column_values if value is not None]
    if fn == "count":
        return len(there)
    if not there:
        return None
    if fn == "sum":
        return sum(there)
    return min(there) if fn == "min" else max(there)
