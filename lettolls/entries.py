"""Entries of a log: what one is, their order, and the days that they tell a gate shut."""

from lettolls.days import Days, year_of
from lettolls.plain import is_name, is_within
from lettolls.tables import is_table

MOST_SURETIES = 4
MOST_WEIGHT = 99
# the kinds of an entry's first parts, and, by its word, of those behind
HEAD = ("number", "day", "word")
PARTS = {
    "bid": ("year", "name", "gate", "gate", "offer", "sureties"),
    "let": ("year",),
    "under": ("name", "name", "gate", "day", "day", "pence"),
    "anew": ("name", "gate", "day", "pence", "sureties"),
    "fail": ("name",),
    "shut": ("gate", "day", "day"),
    "table": ("gate", "table"),
    "free": ("name", "day", "day"),
    "load": ("name", "units", "place", "place"),
    "taken": ("gate", "pence"),
}
# the least and the most of each kind of part that is a number
BOUNDS = {
    "number": (1, 9999),
    "day": (0, 3639),
    "year": (0, 9),
    "offer": (1, 10 ** 6),
    "pence": (0, 10 ** 6),
    "units": (0, 10 ** 9),
}


def is_surety(thing):
    if not isinstance(thing, tuple) or len(thing) != 2:
        return False
    return is_name(thing[0]) and is_within(thing[1], 1, MOST_WEIGHT)


def are_sureties(thing):
    if not isinstance(thing, tuple) or len(thing) > MOST_SURETIES:
        return False
    if not all([is_surety(pair) for pair in thing]):
        return False
    return len(set([pair[0] for pair in thing])) == len(thing)


def is_part(roads, kind, thing):
    """Whether anything may be an entry's part of this kind."""
    if kind in BOUNDS:
        least, most = BOUNDS[kind]
        return is_within(thing, least, most)
    if kind == "gate":
        return thing in roads.gates()
    if kind == "place":
        return thing in roads.places()
    if kind == "table":
        return is_table(thing)
    if kind == "sureties":
        return are_sureties(thing)
    # what is left is a name, or the word, each of which is a NAME too
    return is_name(thing)


def is_no_surety(name, sureties):
    return name not in [pair[0] for pair in sureties]


def parts_agree(roads, entry):
    """Whether the parts of an entry, each of its kind, go together."""
    day, word = entry[1:3]
    parts = entry[3:]
    if word == "bid":
        year, bidder, first, last, pence, sureties = parts
        return roads.gates_from(first, last) != () and is_no_surety(bidder, sureties)
    if word == "anew":
        taker, gate, last, pence, sureties = parts
        return year_of(last) == year_of(day) and last >= day and is_no_surety(taker, sureties)
    if word == "under":
        giver, taker, gate, first, last, pence = parts
        return giver != taker and day <= first <= last
    if word in ("shut", "free"):
        what, first, last = parts
        return day <= first <= last
    return True


def part_kinds(word):
    """The kinds of all parts of an entry of this word, in order."""
    return HEAD + PARTS[word]


def is_entry(roads, thing):
    """Whether anything is an entry, with the gates and places of roads."""
    if not isinstance(thing, tuple) or len(thing) < len(HEAD):
        return False
    # what isn't a text may be no key
    if not isinstance(thing[2], str) or thing[2] not in PARTS:
        return False
    kinds = part_kinds(thing[2])
    if len(thing) != len(kinds):
        return False
    if not all([is_part(roads, kind, part) for kind, part in zip(kinds, thing)]):
        return False
    return parts_agree(roads, thing)


def place_in_log(entry):
    """What rises in the order of a log: days, of one day numbers."""
    return (entry[1], entry[0])


def in_order(entries):
    """The list of the entries in their order."""
    return sorted(entries, key=place_in_log)


def shut_days(entries, gate):
    """The Days that the entries tell the gate shut."""
    return Days([entry[4:6] for entry in entries if entry[2] == "shut" and entry[3] == gate])


def shut_on(entries, day):
    """The gates, maybe several times, that the entries tell shut on the day."""
    return [entry[3] for entry in entries if entry[2] == "shut" and entry[4] <= day <= entry[5]]
