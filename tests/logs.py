"""Entries, for the tests of entries and rolls."""
from lettolls.roads import Roads

ROADS = Roads([("york", "hull", ("east", "mid", "west")), ("hull", "goole", ("quay",)), ("selby", "york", ())])
TABLE = (("cow", 0, None, 2, 1, 1), ("", 0, 9, 5, 0, 1))
FOUR = (("bob", 1), ("cat", 99), ("dan", 2), ("eve", 1))

# one of each word
ENTRIES = {
    "bid": (7, 0, "bid", 1, "ann", "east", "west", 900, (("bob", 2),)),
    "let": (8, 300, "let", 1),
    "under": (9, 400, "under", "ann", "cat", "mid", 410, 500, 30),
    "anew": (10, 450, "anew", "dan", "quay", 727, 12, (("eve", 1), ("bob", 3))),
    "fail": (11, 430, "fail", "ann"),
    "shut": (12, 20, "shut", "quay", 20, 25),
    "table": (13, 30, "table", "east", TABLE),
    "free": (14, 5, "free", "cow", 6, 9),
    "load": (15, 500, "load", "cow", 40, "york", "goole"),
    "taken": (16, 500, "taken", "mid", 42),
}
# their texts
TEXTS = {
    "bid": "7 0 bid 1 ann east west 900 bob 2",
    "let": "8 300 let 1",
    "under": "9 400 under ann cat mid 410 500 30",
    "anew": "10 450 anew dan quay 727 12 eve 1 bob 3",
    "fail": "11 430 fail ann",
    "shut": "12 20 shut quay 20 25",
    "table": "13 30 table east cow 0 - 2 1 1 ; * 0 9 5 0 1",
    "free": "14 5 free cow 6 9",
    "load": "15 500 load cow 40 york goole",
    "taken": "16 500 taken mid 42",
}


def some_sureties(chance, but):
    names = [name for name in ("ann", "bob", "cat", "dan", "eve", "abcdefgh") if name != but]
    return tuple((name, chance.randint(1, 99)) for name in chance.sample(names, chance.randint(0, 4)))


def some_table(chance):
    rows = []
    for _ in range(chance.randint(0, 8)):
        least = chance.randint(0, 10 ** 9)
        rows.append((chance.choice(["", "cow", "pig"]), least, chance.choice([None, least, 10 ** 9]),
                     chance.randint(0, 10 ** 6), chance.randint(0, 10 ** 6), chance.randint(1, 12)))
    return tuple(rows)


def some_entry(chance, number):
    """An entry of ROADS by chance."""
    day = chance.choice([0, 3639, chance.randint(0, 3639)])
    first = chance.randint(day, 3639)
    last = chance.randint(first, 3639)
    pence = chance.choice([1, 10 ** 6, chance.randint(1, 10 ** 6)])
    name, other = chance.sample(["ann", "bob", "cat", "dan", "eve", "abcdefgh"], 2)
    gate = chance.choice(ROADS.gates())
    gates = chance.choice([("east", "west"), ("mid", "mid"), ("east", "mid"), ("quay", "quay")])
    word = chance.choice(sorted(ENTRIES))
    parts = {
        "bid": (chance.randint(0, 9), name, *gates, pence, some_sureties(chance, name)),
        "let": (chance.randint(0, 9),),
        "under": (name, other, gate, first, last, pence - 1),
        "anew": (name, gate, chance.randint(day, day // 364 * 364 + 363), pence - 1, some_sureties(chance, name)),
        "fail": (name,),
        "shut": (gate, first, last),
        "table": (gate, some_table(chance)),
        "free": (name, first, last),
        "load": (name, chance.randint(0, 10 ** 9), chance.choice(ROADS.places()), chance.choice(ROADS.places())),
        "taken": (gate, pence - 1),
    }
    return (number, day, word, *parts[word])


def some_log(chance, many):
    """So many entries of unlike numbers, in any order."""
    return [some_entry(chance, number) for number in chance.sample(range(1, 10000), many)]
