"""A desk: roads, entries and asks as rows of a text, and the answers to them."""

from lettolls.book import Book
from lettolls.dues import dues_at
from lettolls.errors import BadRow, Full, NoDeed, NoEntry, Twice
from lettolls.failing import fallen
from lettolls.partings import parting
from lettolls.passing import least_way, no_tolls
from lettolls.plain import number_in
from lettolls.roads import Roads
from lettolls.roadtexts import can_stand, road_in
from lettolls.rolls import entry_in
from lettolls.takings import balances, books_part, passes, table_on

# by their first words, the kinds of the words behind, of all rows that are neither roads nor entries
SHAPES = {
    "strike": ("number",),
    "undo": (),
    "holder": ("gate", "day"),
    "chain": ("gate", "day"),
    "voids": (),
    "dues": ("quarter",),
    "fallen": (),
    "passes": (),
    "books": (),
    "balances": (),
    "way": ("place", "place"),
    "part": ("gate", "day", "gate", "day"),
}
# the most of each kind of word that is a number
MOST = {"number": 9999, "day": 3639, "quarter": 39}


def parted(parts):
    return " ".join([str(part) for part in parts])


def listed(rows):
    """Several things in one text, `-` where there is nothing."""
    return "; ".join([parted(row) for row in rows]) if rows else "-"


def tell_holder(held, parts):
    gate, day = parts
    return held.holder(gate, day)


def tell_chain(held, parts):
    gate, day = parts
    rows = held.leases()
    return listed([(rows[lease][3], rows[lease][4], rows[lease][7]) for lease in held.chain(gate, day)])


def tell_voids(held, parts):
    return listed(held.voids())


def tell_dues(held, parts):
    return listed([(giver, taker, gate, pence) for giver, taker, gate, lease, pence in dues_at(held, parts[0])])


def tell_fallen(held, parts):
    return listed([(row[0], row[2], row[3], row[4], row[6]) for row in fallen(held)])


def tell_passes(held, parts):
    return listed([(ticket, gate, pence, holder) for number, day, gate, pence, holder, ticket in passes(held)])


def tell_books(held, parts):
    found = books_part(held)
    return "alike" if found is None else parted(found)


def tell_balances(held, parts):
    return listed(balances(held))


def tell_way(held, parts):
    one, other = parts
    roads = held.roads()
    found = least_way(roads, no_tolls(roads), one, other)
    if found is None:
        return "none"
    pence, way = found
    return parted(way) if way else "-"


def tell_part(held, parts):
    gate, day, other_gate, other_day = parts
    log = held.log()
    found = parting(table_on(log, gate, day), table_on(log, other_gate, other_day))
    if found is None:
        return "alike"
    units, kind = found
    return parted([units, kind or "*"])


ASKS = {
    "holder": tell_holder,
    "chain": tell_chain,
    "voids": tell_voids,
    "dues": tell_dues,
    "fallen": tell_fallen,
    "passes": tell_passes,
    "books": tell_books,
    "balances": tell_balances,
    "way": tell_way,
    "part": tell_part,
}


def answers_to_put(book, entry):
    try:
        book.put(entry)
    except Twice:
        return ["refused Twice"]
    except Full:
        return ["refused Full"]
    return []


def answer_to_strike(book, number):
    try:
        book.strike(number)
    except NoEntry:
        return "refused NoEntry"
    return "done"


def answer_to_undo(book):
    try:
        book.undo()
    except NoDeed:
        return "refused NoDeed"
    return "done"


def answers_to(book, step):
    """The list of answers to one step, none to an entry that is put."""
    word, parts = step
    if word == "put":
        return answers_to_put(book, parts)
    if word == "strike":
        return [answer_to_strike(book, parts[0])]
    if word == "undo":
        return [answer_to_undo(book)]
    tell = ASKS[word]
    return [tell(book.held(), parts)]


def thing_in(roads, kind, word):
    """What a word tells of this kind, None where it tells none."""
    if kind in MOST:
        return number_in(word, MOST[kind])
    known = roads.gates() if kind == "gate" else roads.places()
    return word if word in known else None


def things_in(roads, kinds, words):
    """What words tell, each of its kind, None where they don't."""
    if len(words) != len(kinds):
        return None
    things = [thing_in(roads, kind, word) for kind, word in zip(kinds, words)]
    return None if None in things else things


def step_in(roads, row):
    """The pair (word, parts) that a row behind the roads tells, of an entry ("put", entry); None for what it can't."""
    words = row.split(" ")
    if words[0] in SHAPES:
        return (words[0], things_in(roads, SHAPES[words[0]], words[1:]))
    return ("put", entry_in(roads, row))


def read_desk(text):
    """The Roads and the list of steps that a text tells; refused with BadRow of the first row that can't stand."""
    ahead = []
    steps = []
    for at, row in enumerate(text.split("\n")):
        if row == "":
            continue
        if row.split(" ")[0] == "road":
            road = road_in(row)
            if steps or road is None or not can_stand(ahead, road):
                raise BadRow(at)
            ahead.append(road)
        else:
            step = step_in(Roads(ahead), row)
            if step[1] is None:
                raise BadRow(at)
            steps.append(step)
    return (Roads(ahead), steps)


def run(text):
    """The list of answers to a text's rows; refused with BadRow, ahead of all answers."""
    roads, steps = read_desk(text)
    book = Book(roads)
    answers = []
    for step in steps:
        answers.extend(answers_to(book, step))
    return answers
