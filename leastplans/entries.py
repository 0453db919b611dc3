"""The entries of an index, and how values are found in them."""

from leastplans.ranks import rank, rank_row


def entries_of(rows, places):
    """The places of all rows, in sequence by the ranks at places, then by place."""
    ranked = sorted([(rank_row(row, places), at) for at, row in enumerate(rows)])
    return tuple([at for _, at in ranked])


def halved(rows, entries, places, told):
    """The first entry whose row is not below told, and how many entries were looked at."""
    wanted = ranks_of(told)
    looks = 0
    low = 0
    high = len(entries)
    while low < high:
        mid = (low + high) // 2
        looks += 1
        if rank_row(rows[entries[mid]], places) < wanted:
            low = mid + 1
        else:
            high = mid
    return (low, looks)


def stretch(rows, entries, places, told):
    """(first, behind, looks): where the entries of rows alike with told stand."""
    wanted = ranks_of(told)
    first, looks = halved(rows, entries, places, told)
    behind = first
    while behind < len(entries) and rank_row(rows[entries[behind]], places) == wanted:
        behind += 1
    return (first, behind, looks)


def ranks_of(told):
    return tuple([rank(value) for value in told])
