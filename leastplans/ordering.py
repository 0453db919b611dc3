"""Lists of rows: the wanted order, and which are alike as bags."""

from leastplans.ranks import rank, rank_row


def in_order(rows, orders, wide):
    """The rows by the told orders, then by all their values."""
    places = list(range(wide))
    ranked = [(rank_row(row, places), row) for row in rows]
    found = [row for _, row in sorted(ranked)]
    # the last order first: each later sorting keeps what it does not part in sequence
    for place, way in orders[::-1]:
        found = sorted_at(found, place, way)
    return found


def sorted_at(rows, place, way):
    """The rows up or down by the rank at one place; those with one rank keep their sequence."""
    if way == "asc":
        ranked = [(rank(row[place]), at) for at, row in enumerate(rows)]
        return [rows[at] for _, at in sorted(ranked)]
    ranked = [(rank(row[place]), -at) for at, row in enumerate(rows)]
    return [rows[-at] for _, at in sorted(ranked, reverse=True)]


def alike_bags(one, other):
    """True if each row stands equally often in both lists."""
    return how_often(one) == how_often(other)


def how_often(rows):
    """A dict that tells of each row how often it stands there."""
    many = {}
    for row in rows:
        many[row] = many.get(row, 0) + 1
    return many
