"""Roads by chance, and their ways reckoned without the program, for the tests of passing."""
from lettolls.roads import Roads

GREAT = 10 ** 16


def some_roads(chance):
    """Rows of at most eight roads and eight places, with at most ten gates."""
    places = list("abcdefgh")[:chance.randint(2, 8)]
    gates = list("klmnopqrst")
    chance.shuffle(gates)
    rows = []
    for _ in range(chance.randint(1, 8)):
        many = chance.choice([0, 0, 1, 1, 2, 3])
        one, other = chance.sample(places, 2)
        rows.append((one, other, tuple(gates[:many])))
        gates = gates[many:]
    return Roads(rows)


def some_tolls(chance, roads):
    top = chance.choice([0, 1, 2, 9, GREAT])
    tolls = [(gate, chance.randint(0, top)) for gate in roads.gates()]
    chance.shuffle(tolls)
    return tolls


def some_shut(chance, roads):
    gates = roads.gates()
    if not gates or chance.random() < 0.5:
        return chance.choice([None, []])
    return [chance.choice(gates) for _ in range(chance.randint(1, 3))]


def open_tolls(roads, tolls, shut=None):
    """The toll of each open road, by its number."""
    of_gate = dict(tolls)
    return {at: sum(of_gate[gate] for gate in row[2]) for at, row in enumerate(roads.rows())
            if not set(row[2]) & set(shut or [])}


def all_ways(roads, tolls, one, other, shut=None):
    """(toll, how many roads, way) of all ways that come by no place twice."""
    tolls_of = open_tolls(roads, tolls, shut)
    rows = roads.rows()
    ways = []

    def go(place, been, way):
        if place == other:
            ways.append((sum(tolls_of[at] for at in way), len(way), way))
            return
        for at in tolls_of:
            ends = set(rows[at][:2])
            for onto in ends - {place} if place in ends else ():
                if onto not in been:
                    go(onto, been | {onto}, way + [at])

    go(one, {one}, [])
    return ways
