"""Whether two tables are alike for every load, and the least load that they part."""

from lettolls.tables import row_for, row_toll


def kinds_of(rows):
    """The kinds that rows name, and "" for all others, rising."""
    kinds = [row[0] for row in rows]
    return sorted(set(kinds + [""]))


def edges_of(rows):
    """The units, from 0 on, rising, at which a row begins or has just ended: from one to the next all stay."""
    starts = [row[1] for row in rows]
    ends = [row[2] + 1 for row in rows if row[2] is not None]
    return sorted(set(starts + ends + [0]))


def first_parted(one, other, start, end):
    """The least units, from start to end (None: no end), for which two rows tell unlike tolls; None without."""
    # each time units grow by both pers' product the tolls' difference grows by one and the same number:
    # if it is 0 for that many units, and for one more, it is 0 for all
    stop = start + one[5] * other[5]
    if end is not None:
        stop = min(stop, end)
    for units in range(start, stop + 1):
        if row_toll(one, units) != row_toll(other, units):
            return units
    return None


def parted_between(one, other, kind, start, end):
    """The least units from start to end, between two edges, that part two tables for this kind; None without."""
    return first_parted(row_for(one, kind, start), row_for(other, kind, start), start, end)


def parting(one, other):
    """The least (units, kind) of which two tables tell unlike tolls, None where there's none."""
    rows = [*one, *other]
    kinds = kinds_of(rows)
    edges = edges_of(rows)
    for at, start in enumerate(edges):
        end = edges[at + 1] - 1 if at + 1 < len(edges) else None
        found = [(parted_between(one, other, kind, start, end), kind) for kind in kinds]
        parted = [pair for pair in found if pair[0] is not None]
        if parted:
            return min(parted)
    return None


def are_alike(one, other):
    return parting(one, other) is None
