"""Entries and logs, for the tests of entries, rolls and all that follows of them."""
from lettolls.holding import Held
from lettolls.roads import Roads
from lettolls.rolls import read_roll

ROADS = Roads([("york", "hull", ("east", "mid", "west")), ("hull", "goole", ("quay",)), ("selby", "york", ())])
TABLE = (("cow", 0, None, 2, 1, 1), ("", 0, 9, 5, 0, 1))
FOUR = (("bob", 1), ("cat", 99), ("dan", 2), ("eve", 1))
NAMES = ["ann", "bob", "cat", "dan", "eve", "abcdefgh", "fay", "gus", "hal", "ida"]

# one of each word
ENTRIES = {
    "bid": (7, 0, "bid", 1, "ann", "east", "west", 900, (("bob", 2),)),
    "let": (8, 300, "let", 1),
    "under": (9, 400, "under", "ann", "cat", "mid", 410, 500, 30),
    "anew": (10, 450, "anew", "dan", "quay", 727, 12, (("eve", 1), ("bob", 3))),
    "fail": (11, 430, "fail", "ann"),
    "shut": (12, 20, "shut", "quay", 20, 25),
    "table": (13, 30, "table", "east", TABLE),
    "free": (14, 5, "free", "cow", 6, 9),
    "load": (15, 500, "load", "cow", 40, "york", "goole"),
    "taken": (16, 500, "taken", "mid", 42),
}
# their texts
TEXTS = {
    "bid": "7 0 bid 1 ann east west 900 bob 2",
    "let": "8 300 let 1",
    "under": "9 400 under ann cat mid 410 500 30",
    "anew": "10 450 anew dan quay 727 12 eve 1 bob 3",
    "fail": "11 430 fail ann",
    "shut": "12 20 shut quay 20 25",
    "table": "13 30 table east cow 0 - 2 1 1 ; * 0 9 5 0 1",
    "free": "14 5 free cow 6 9",
    "load": "15 500 load cow 40 york goole",
    "taken": "16 500 taken mid 42",
}


def some_sureties(chance, but):
    names = [name for name in NAMES[:6] if name != but]
    return tuple((name, chance.randint(1, 99)) for name in chance.sample(names, chance.randint(0, 4)))


def some_table(chance):
    rows = []
    for _ in range(chance.randint(0, 8)):
        least = chance.randint(0, 10 ** 9)
        rows.append((chance.choice(["", "cow", "pig"]), least, chance.choice([None, least, 10 ** 9]),
                     chance.randint(0, 10 ** 6), chance.randint(0, 10 ** 6), chance.randint(1, 12)))
    return tuple(rows)


def some_entry(chance, number):
    """An entry of ROADS by chance."""
    day = chance.choice([0, 3639, chance.randint(0, 3639)])
    first = chance.randint(day, 3639)
    last = chance.randint(first, 3639)
    pence = chance.choice([1, 10 ** 6, chance.randint(1, 10 ** 6)])
    name, other = chance.sample(NAMES[:6], 2)
    gate = chance.choice(ROADS.gates())
    gates = chance.choice([("east", "west"), ("mid", "mid"), ("east", "mid"), ("quay", "quay")])
    word = chance.choice(sorted(ENTRIES))
    parts = {
        "bid": (chance.randint(0, 9), name, *gates, pence, some_sureties(chance, name)),
        "let": (chance.randint(0, 9),),
        "under": (name, other, gate, first, last, pence - 1),
        "anew": (name, gate, chance.randint(day, day // 364 * 364 + 363), pence - 1, some_sureties(chance, name)),
        "fail": (name,),
        "shut": (gate, first, last),
        "table": (gate, some_table(chance)),
        "free": (name, first, last),
        "load": (name, chance.randint(0, 10 ** 9), chance.choice(ROADS.places()), chance.choice(ROADS.places())),
        "taken": (gate, pence - 1),
    }
    return (number, day, word, *parts[word])


def some_log(chance, many):
    """So many entries of unlike numbers, in any order."""
    return [some_entry(chance, number) for number in chance.sample(range(1, 10000), many)]


def told_by(text, roads=ROADS):
    """The entries of roads that rows tell, each without the blanks around it."""
    return read_roll(roads, "\n".join(row.strip() for row in text.split("\n")))


def held_by(text, roads=ROADS):
    return Held(roads, told_by(text, roads))


GATES_BID = [("east", "west"), ("mid", "mid"), ("east", "mid"), ("west", "west"), ("quay", "quay")]


def some_last(chance, first, last):
    return chance.choice([first, last, last, chance.randint(first, last)])


def some_bid(chance, day, pence):
    name = chance.choice(NAMES)
    year = min(9, day // 364 + chance.choice([1, 1, 1, 2]))
    return day, "bid", year, name, *chance.choice(GATES_BID), pence + 1, some_sureties(chance, name)


def some_letting(chance, held, day, pence):
    """An under by the gate's holder, or an anew where it is let to none."""
    gate = chance.choice(ROADS.gates())
    late = min(3639, day + chance.choice([0, 0, 0, 5, 60, 200]))
    first, last, giver = [row for row in held.stretches(gate) if row[0] <= late <= row[1]][0]
    first, last = max(first, day), min(3639, last + (chance.random() < 0.1))
    taker = chance.choice([name for name in NAMES if name != giver])
    if giver == "TRUST":
        end = max(day, min(last, day // 364 * 364 + 363))
        return day, "anew", taker, gate, some_last(chance, day, end), pence, some_sureties(chance, taker)
    start = chance.randint(first, last)
    return day, "under", giver, taker, gate, start, some_last(chance, start, last), pence


def some_fail(chance, held, day):
    """A fail of one who has taken a lease, mostly."""
    takers = [lease[4] for lease in held.leases() if lease[6] >= day - 50]
    return day, "fail", chance.choice(takers or NAMES)


def some_shut_gate(chance, day):
    first = min(3639, day + chance.randint(0, 50))
    return day, "shut", chance.choice(ROADS.gates()), first, some_last(chance, first, min(3639, first + 100))


def some_deed(chance, held, day):
    """The parts behind the number of an entry that mostly can be done, where held is who holds by then."""
    pence = chance.choice([0, 1, 7, 100, 1000, chance.randint(0, 10 ** 6 - 1)])
    word = chance.choices(["bid", "let", "letting", "fail", "shut"], [5, 2, 12, 2, 1])[0]
    if word == "bid":
        return some_bid(chance, day, pence)
    if word == "let":
        return day, "let", min(9, day // 364 + 1)
    if word == "letting":
        return some_letting(chance, held, day, pence)
    return some_fail(chance, held, day) if word == "fail" else some_shut_gate(chance, day)


def some_story(chance, many):
    """So many entries, in any order, by most of which something is done: gates are let, let on, and let anew."""
    days = sorted(chance.choice([chance.randint(0, 363), chance.randint(300, 700), chance.randint(300, 700),
                                 chance.randint(0, 3639)]) for _ in range(many))
    entries = []
    for number, day in zip(chance.sample(range(1, 10000), many), days):
        entries.append((number, *some_deed(chance, Held(ROADS, entries), day)))
    chance.shuffle(entries)
    return entries


def some_toll_rows(chance):
    """A table by which a load of few units pays little."""
    rows = []
    for _ in range(chance.randint(0, 3)):
        least = chance.choice([0, 0, 5])
        rows.append((chance.choice(["", "", "cow"]), least, chance.choice([None, least, least + 9]),
                     chance.randint(0, 5), chance.randint(0, 3), chance.randint(1, 12)))
    return tuple(rows)


def some_traffic(chance, numbers, roads=ROADS):
    """Entries of these numbers by which loads pass, on few days, so that several pass by one table and gate."""
    days = [chance.randint(300, 800) for _ in range(4)]
    entries = []
    for number in numbers:
        day = chance.choice(days)
        gate = chance.choice(roads.gates())
        kind = chance.choice(["cow", "pig", "ewe"])
        first = min(3639, day + chance.choice([0, 0, 1]))
        last = chance.choice([first, first + 1, 801])
        word = chance.choices(["load", "table", "free", "shut", "taken"], [10, 8, 1, 1, 2])[0]
        parts = {
            "load": (kind, chance.randint(0, 20), chance.choice(roads.places()), chance.choice(roads.places())),
            "table": (gate, some_toll_rows(chance)),
            "free": (kind, first, last),
            "shut": (gate, first, min(last, first + 1)),
            "taken": (gate, chance.randint(0, 20)),
        }
        entries.append((number, day, word, *parts[word]))
    return entries


def some_whole_log(chance, many):
    """A story of so many entries, and as many by which loads pass, in any order."""
    entries = some_story(chance, many)
    numbers = [number for number in chance.sample(range(1, 10000), 2 * many)
               if number not in [entry[0] for entry in entries]]
    entries += some_traffic(chance, numbers[:many])
    chance.shuffle(entries)
    return entries
