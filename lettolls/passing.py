"""Ways of least toll from place to place."""


def tolls_by_road(roads, tolls, shut=None):
    """The toll of each road none of whose gates is shut, by the road's number."""
    barred = [] if shut is None else shut
    pence_at = {gate: pence for gate, pence in tolls}
    found = {}
    for at, (one, other, gates) in enumerate(roads.rows()):
        if not any([gate in barred for gate in gates]):
            found[at] = sum([pence_at[gate] for gate in gates])
    return found


def no_tolls(roads):
    """Tolls of roads where none is taken."""
    return [(gate, 0) for gate in roads.gates()]


def lead_on(best, near, far, road, toll):
    """Takes the best way to near, led on by a road to far, as the best one to far, where it is better."""
    if near not in best:
        return
    pence, many, way = best[near]
    found = (pence + toll, many + 1, [*way, road])
    if far not in best or found < best[far]:
        best[far] = found


def best_ways(roads, tolls, one, shut):
    """The least (pence, how many roads, way) from one to each place to which there is a way, by the place."""
    rows = roads.rows()
    road_tolls = tolls_by_road(roads, tolls, shut)
    best = {one: (0, 0, [])}
    # the best way comes by no place twice, and each turn finds those that are longer by one road
    for turn in range(len(roads.places())):
        for road, toll in road_tolls.items():
            left, right = rows[road][:2]
            lead_on(best, left, right, road, toll)
            lead_on(best, right, left, road, toll)
    return best


def least_way(roads, tolls, one, other, shut=None):
    """(pence, way) of the least toll, of these of the fewest roads, of these the least list; None without a way."""
    best = best_ways(roads, tolls, one, shut)
    if other not in best:
        return None
    pence, many, way = best[other]
    return (pence, way)


def least_tolls(roads, tolls, one, shut=None):
    """The rising list of (place, least toll) of each place to which there is a way from one."""
    best = best_ways(roads, tolls, one, shut)
    return sorted([(place, found[0]) for place, found in best.items()])
