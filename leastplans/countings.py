"""Sorting that counts its comparisons."""


def sorted_counted(rows, ranks):
    """(the rows sorted by their ranks, how many comparisons this took)."""
    places, many = merged_places(list(range(len(rows))), ranks)
    return ([rows[at] for at in places], many)


def merged_places(places, ranks):
    """The places sorted by their ranks, and the number of comparisons."""
    if len(places) <= 1:
        return (places, 0)
    half = len(places) // 2
    firsts, first_many = merged_places(places[:half], ranks)
    seconds, second_many = merged_places(places[half:], ranks)
    found = []
    one = other = many = 0
    while one < len(firsts) and other < len(seconds):
        many += 1
        if ranks[seconds[other]] < ranks[firsts[one]]:
            found.append(seconds[other])
            other += 1
        else:
            found.append(firsts[one])
            one += 1
    return (found + firsts[one:] + seconds[other:], first_many + second_many + many)


def stretches_sorted(rows, marks, ranks):
    """Rows sorted by ranks, each stretch of adjacent rows with the same mark by itself.

    marks and ranks are lists with a tuple for each row. Returns a pair as sorted_counted.
    """
    found = []
    many = 0
    first = 0
    while first < len(rows):
        behind = first
        while behind < len(rows) and marks[behind] == marks[first]:
            behind += 1
        some, more = sorted_counted(rows[first:behind], ranks[first:behind])
        found.extend(some)
        many += more
        first = behind
    return (found, many)
