"""What loads pay, and to whom; whether books of takings agree with it; and what all comes to for each."""

from lettolls.days import QUARTERS
from lettolls.dues import dues_at
from lettolls.entries import shut_on
from lettolls.failing import fallen
from lettolls.passing import least_way, no_tolls
from lettolls.tables import toll_of
from lettolls.tickets import ticket_text


def table_on(log, gate, day):
    """The gate's table of the day, by a log in order: the last of that day or one ahead, () without."""
    tables = [entry[4] for entry in log if entry[2] == "table" and entry[3] == gate and entry[1] <= day]
    return tables[-1] if tables else ()


def is_free(log, kind, day):
    """Whether this kind of loads pays nothing on the day."""
    return any([entry[2] == "free" and entry[3] == kind and entry[4] <= day <= entry[5] for entry in log])


def tolls_for(log, roads, load):
    """The pairs (gate, pence) of what a load would pay at each gate."""
    number, day, word, kind, units, one, other = load
    if is_free(log, kind, day):
        return no_tolls(roads)
    return [(gate, toll_of(table_on(log, gate, day), kind, units)) for gate in roads.gates()]


def gates_passed(rows, way, one):
    """The gates on a way from this place, as they are passed."""
    place = one
    gates = []
    for road in way:
        left, right, between = rows[road]
        if place == left:
            gates.extend(between)
            place = right
        else:
            gates.extend(between[::-1])
            place = left
    return gates


def passes_of(held, load):
    """The passes of one load that isn't void."""
    number, day, word, kind, units, one, other = load
    roads = held.roads()
    log = held.log()
    tolls = tolls_for(log, roads, load)
    pence, way = least_way(roads, tolls, one, other, shut_on(log, day))
    pence_at = {gate: toll for gate, toll in tolls}
    gates = gates_passed(roads.rows(), way, one)
    return [(number, day, gate, pence_at[gate], held.holder(gate, day), ticket_text(number, at))
            for at, gate in enumerate(gates)]


def passes(held):
    """The list of (number, day, gate, pence, holder, ticket), load by load in order, gate by gate."""
    void = [number for number, word in held.voids()]
    loads = [entry for entry in held.log() if entry[2] == "load" and entry[0] not in void]
    return [row for load in loads for row in passes_of(held, load)]


def summed(pairs):
    """By key what the pairs (key, pence) tell of it together."""
    sums = {}
    for key, pence in pairs:
        sums[key] = sums.get(key, 0) + pence
    return sums


def takings(held):
    """The rising list of (day, gate, holder, pence) of what is paid there together, above 0."""
    sums = summed([((day, gate, holder), pence) for number, day, gate, pence, holder, ticket in passes(held)])
    return sorted([(*place, pence) for place, pence in sums.items() if pence > 0])


def books_part(held):
    """The least (day, gate, paid, told) where taken entries tell not what is paid, None without."""
    paid = summed([((day, gate), pence) for day, gate, holder, pence in takings(held)])
    told = summed([((entry[1], entry[3]), entry[4]) for entry in held.log() if entry[2] == "taken"])
    for place in sorted(set([*paid, *told])):
        pair = (paid.get(place, 0), told.get(place, 0))
        if pair[0] != pair[1]:
            return (*place, *pair)
    return None


def moved(giver, taker, pence):
    """The pairs (name, pence) of what a taker pays to a giver."""
    return [(giver, pence), (taker, -pence)]


def balances(held):
    """The rising list of (name, pence), not 0, of what each has in the end, less what he paid."""
    pairs = [(holder, pence) for day, gate, holder, pence in takings(held)]
    for quarter in range(QUARTERS):
        for giver, taker, gate, lease, pence in dues_at(held, quarter):
            pairs.extend(moved(giver, taker, pence))
    for number, lease, giver, unpaid, loss, answers, rest in fallen(held):
        for surety, pence in answers:
            pairs.extend(moved(giver, surety, pence))
    return sorted([(name, pence) for name, pence in summed(pairs).items() if pence != 0])
