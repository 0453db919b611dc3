"""Which facts rows keep."""

from leastplans.ranks import rank_row


def alike_most(rows, places):
    """How many rows, at most, are alike at all places."""
    many = {}
    for row in rows:
        key = tuple([row[place] for place in places])
        many[key] = many.get(key, 0) + 1
    return max(many.values(), default=0)


def unlike_many(rows, place):
    """How many unlike values stand at a place, null counted."""
    return len({row[place] for row in rows})


def broken(facts, rows):
    """The place of the first placed fact that the rows break, or None."""
    for at, fact in enumerate(facts):
        if breaks(fact, rows):
            return at
    return None


def breaks(fact, rows):
    """True if the rows break a placed fact."""
    if fact[0] == "rows":
        return len(rows) > fact[1]
    if fact[0] == "key":
        return alike_most(rows, fact[1]) > 1
    if fact[0] == "fan":
        return alike_most(rows, fact[1]) > fact[2]
    if fact[0] == "dist":
        return unlike_many(rows, fact[1]) > fact[2]
    return not is_rising(rows, fact[1])


def is_rising(rows, places):
    """True if no row has a lower rank at places than the one before it."""
    found = [rank_row(row, places) for row in rows]
    return all([one <= other for one, other in zip(found, found[1:])])
