"""What a log comes to, reckoned day by day without the program, for the tests of holding and all that follows of it."""
import itertools

from nets import all_ways

DAYS = range(3640)
WORDS = {"bid", "let", "under", "anew", "fail", "load"}


def choices_of(bids):
    """All choices of bids (first, last, pence), each a rising list of their numbers."""
    def go(at, choice, taken):
        if at == len(bids):
            yield choice
            return
        yield from go(at + 1, choice, taken)
        gates = set(range(bids[at][0], bids[at][1] + 1))
        if not gates & taken:
            yield from go(at + 1, choice + [at], taken | gates)
    return go(0, [], set())


def best_choice(bids):
    return min(choices_of(bids), key=lambda choice: (-sum(bids[at][2] for at in choice), choice))


def day_part(lease, day):
    first, last, pence = lease[5:]
    many = last - first + 1
    return pence * (day - first + 1) // many - pence * (day - first) // many


def by_weights(total, weights):
    edges = [total * sum(weights[:at]) // sum(weights) for at in range(len(weights) + 1)]
    return [b - a for a, b in itertools.pairwise(edges)]


class Model:
    """The chains of all gates, a list of leases' places for each single day."""

    def __init__(self, roads, entries):
        self.roads = roads
        self.log = sorted(entries, key=lambda entry: (entry[1], entry[0]))
        self.chains = {gate: [[] for _ in DAYS] for gate in roads.gates()}
        self.leases, self.voids, self.bids, self.years, self.fails = [], [], [], set(), []
        for entry in self.log:
            word = getattr(self, "do_" + entry[2])(entry) if entry[2] in WORDS else None
            if word:
                self.voids.append((entry[0], word))

    def holder(self, gate, day):
        chain = self.chains[gate][day]
        return self.leases[chain[-1]][4] if chain else "TRUST"

    def shut(self, gate, day):
        return any(e[2] == "shut" and e[3] == gate and e[4] <= day <= e[5] for e in self.log)

    def shut_gates(self, day):
        return [gate for gate in self.roads.gates() if self.shut(gate, day)]

    def failed(self, *names):
        return bool(set(names) & {fail[0][3] for fail in self.fails})

    def make(self, number, gate, giver, taker, days, pence):
        lease = len(self.leases)
        self.leases.append((lease, number, gate, giver, taker, days[0], days[-1], pence))
        for day in days:
            self.chains[gate][day].append(lease)

    def do_bid(self, entry):
        number, day, word, year, bidder, first, last, pence, sureties = entry
        if day >= 364 * year or year in self.years:
            return "late"
        if self.failed(bidder, *dict(sureties)):
            return "failed"
        self.bids.append(entry)

    def do_let(self, entry):
        year = entry[3]
        if entry[1] >= 364 * year:
            return "late"
        if year in self.years:
            return "again"
        self.years.add(year)
        for one, other, gates in self.roads.rows():
            bids = [bid for bid in self.bids if bid[3] == year and bid[5] in gates and not self.failed(bid[4])]
            for at in best_choice([(gates.index(bid[5]), gates.index(bid[6]), bid[7]) for bid in bids]):
                self.let_bid(bids[at], gates)

    def let_bid(self, bid, gates):
        number, day, word, year, bidder, first, last, pence, sureties = bid
        own = gates[gates.index(first):gates.index(last) + 1]
        for gate, part in zip(own, by_weights(pence, [1] * len(own))):
            self.make(number, gate, "TRUST", bidder, range(364 * year, 364 * year + 364), part)

    def do_under(self, entry):
        number, day, word, giver, taker, gate, first, last, pence = entry
        if self.failed(taker):
            return "failed"
        return self.try_make(number, gate, giver, taker, range(first, last + 1), pence)

    def do_anew(self, entry):
        number, day, word, taker, gate, last, pence, sureties = entry
        if self.failed(taker, *dict(sureties)):
            return "failed"
        return self.try_make(number, gate, "TRUST", taker, range(day, last + 1), pence)

    def try_make(self, number, gate, giver, taker, days, pence):
        if {self.holder(gate, day) for day in days} != {giver}:
            return "none"
        self.make(number, gate, giver, taker, days, pence)

    def do_fail(self, entry):
        number, day, word, name = entry
        if self.failed(name):
            return "failed"
        own = [lease[0] for lease in self.leases if lease[4] == name]
        self.fails.append((entry, len(self.leases), {lease: self.days_of(lease) for lease in own}))
        for gate, chain in self.chains.items():
            for late in range(day, 3640):
                while set(own) & set(chain[late]):
                    chain[late].pop()

    def do_load(self, entry):
        number, day, word, kind, units, one, other = entry
        if not all_ways(self.roads, [(gate, 0) for gate in self.roads.gates()], one, other, self.shut_gates(day)):
            return "none"

    def days_of(self, lease):
        return [day for day in DAYS if lease in self.chains[self.leases[lease][2]][day]]

    def due_of(self, lease, first, last):
        row = self.leases[lease]
        return sum(day_part(row, day) for day in self.days_of(lease)
                   if first <= day <= last and not self.shut(row[2], day))

    def dues_at(self, quarter):
        first, last = 91 * quarter, 91 * quarter + 90
        gone = {entry[3] for entry, many, stood in self.fails if entry[1] <= last}
        dues = [(giver, taker, gate, lease, self.due_of(lease, first, last))
                for lease, number, gate, giver, taker, *rest in self.leases if taker not in gone]
        return sorted(due for due in dues if due[4])

    def borne(self, gate, day):
        if not self.shut(gate, day):
            return []
        took = given = 0
        told = []
        for name, lease in [("TRUST", None)] + [(self.leases[lease][4], lease) for lease in self.chains[gate][day]]:
            part = 0 if lease is None else day_part(self.leases[lease], day)
            if told:
                told[-1] = (told[-1][0], told[-1][1] + part)
            told.append((name, -part))
        return told

    def fallen(self):
        told, gone = [], set()
        for (number, day, word, name), many, stood in self.fails:
            start = day // 91 * 91
            for lease, days in sorted(stood.items()):
                if not any(late >= start for late in days):
                    continue
                row = self.leases[lease]
                unpaid = self.due_of(lease, start, day - 1)
                loss = max(0, sum(self.lost(row, late, many) for late in days
                                  if late >= day and not self.shut(row[2], late)))
                told.append((number, lease, row[3], unpaid, loss, *self.answers(row, unpaid + loss, gone)))
            gone.add(name)
        return told

    def lost(self, row, day, many):
        """What one day taken out of a lease loses, maybe below 0."""
        for again in self.leases[many:]:
            if again[2:4] == row[2:4] and again[5] <= day <= again[6]:
                return day_part(row, day) - day_part(again, day)
        return day_part(row, day)

    def answers(self, row, total, gone):
        entry, = [entry for entry in self.log if entry[0] == row[1]]
        sureties = [] if entry[2] == "under" else [pair for pair in entry[-1] if pair[0] not in gone]
        if not sureties:
            return [], total
        return list(zip(dict(sureties), by_weights(total, [weight for name, weight in sureties]))), 0

    def table(self, gate, day):
        table = ()
        for entry in self.log:
            if entry[2] == "table" and entry[3] == gate and entry[1] <= day:
                table = entry[4]
        return table

    def toll(self, gate, day, kind, units):
        if any(e[2] == "free" and e[3] == kind and e[4] <= day <= e[5] for e in self.log):
            return 0
        for name, least, most, pence, each, per in self.table(gate, day):
            if name in ("", kind) and least <= units and (most is None or units <= most):
                return pence + each * -(-units // per)
        return 0

    def passes(self):
        told = []
        for entry in self.log:
            if entry[2] == "load" and (entry[0], "none") not in self.voids:
                told += self.passes_of(entry)
        return told

    def passes_of(self, load):
        number, day, word, kind, units, one, other = load
        tolls = {gate: self.toll(gate, day, kind, units) for gate in self.roads.gates()}
        way = min(all_ways(self.roads, tolls.items(), one, other, self.shut_gates(day)))[2]
        gates, place = [], one
        for road in way:
            left, right, between = self.roads.rows()[road]
            gates += between if place == left else reversed(between)
            place = right if place == left else left
        return [(number, day, gate, tolls[gate], self.holder(gate, day), f"{16 * number + at:05X}")
                for at, gate in enumerate(gates)]

    def takings(self):
        places = {(day, gate, holder) for number, day, gate, pence, holder, ticket in self.passes()}
        told = [(*place, sum(row[3] for row in self.passes() if (row[1], row[2], row[4]) == place)) for place in places]
        return sorted(row for row in told if row[3])

    def books_part(self):
        paid = {(day, gate): pence for day, gate, holder, pence in self.takings()}
        for place in sorted((day, gate) for day in {entry[1] for entry in self.log} for gate in self.roads.gates()):
            told = sum(entry[4] for entry in self.log if entry[2] == "taken" and (entry[1], entry[3]) == place)
            if told != paid.get(place, 0):
                return *place, paid.get(place, 0), told

    def balances(self):
        moves = [(None, holder, pence) for day, gate, holder, pence in self.takings()]
        for quarter in range(40):
            moves += [(taker, giver, pence) for giver, taker, gate, lease, pence in self.dues_at(quarter)]
        for row in self.fallen():
            moves += [(surety, row[2], pence) for surety, pence in row[5]]
        names = {name for one, other, pence in moves for name in (one, other)} - {None}
        told = [(name, sum(pence * ((other == name) - (one == name)) for one, other, pence in moves)) for name in names]
        return sorted(pair for pair in told if pair[1])
