"""Which values are rows of a table."""

from leastplans.errors import BadRow
from leastplans.plain import is_integer

GREATEST = 10 ** 9 - 1
LONGEST = 12


def told_row(columns, row):
    """The row; raises if it is no row of a table with these columns."""
    if not isinstance(row, tuple):
        raise BadRow("row")
    if len(row) != len(columns):
        raise BadRow("length")
    for column, value in zip(columns, row):
        _, kind, free = column
        check_value(kind, free, value)
    return row


def check_value(kind, free, value):
    """Raises what is wrong with a value of a column."""
    if value is None:
        if not free:
            raise BadRow("null")
    elif kind == "number":
        if not is_integer(value):
            raise BadRow("kind")
        if abs(value) > GREATEST:
            raise BadRow("number")
    else:
        if not isinstance(value, str):
            raise BadRow("kind")
        if len(value) > LONGEST or "'" in value:
            raise BadRow("text")
