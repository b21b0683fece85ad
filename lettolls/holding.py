"""Who holds which gate on which day, and through whom: what comes of the entries of a log, gone through in order."""

from lettolls.bids import best_bids
from lettolls.chains import TRUST, Chains, chain_at
from lettolls.days import runs_of, year_span
from lettolls.entries import in_order, shut_on
from lettolls.passing import least_way, no_tolls
from lettolls.roads import Roads
from lettolls.shares import split_by


def is_late(day, year):
    """Whether the day isn't ahead of the year's first."""
    return day >= year_span(year)[0]


def have_failed(held, taker, sureties):
    """Whether a taker, or one of the sureties, has failed ahead."""
    names = [pair[0] for pair in sureties]
    return any([name in held.failed for name in [taker, *names]])


def try_bid(held, entry):
    number, day, word, year, bidder, first, last, pence, sureties = entry
    if is_late(day, year) or year in held.years_let:
        return "late"
    if have_failed(held, bidder, sureties):
        return "failed"
    held.bids_done.append(entry)
    return None


def let_by_bid(held, bid):
    """Makes the leases that a chosen bid brings."""
    number, day, word, year, bidder, first, last, pence, sureties = bid
    gates = held.own_roads.gates_from(first, last)
    start, end = year_span(year)
    for gate, part in zip(gates, split_by(pence, [1] * len(gates))):
        held.chains.make(number, gate, TRUST, bidder, start, end, part)


def let_road(held, year, gates):
    """Lets the gates of one road for the year, to those whose bids bring most."""
    bids = [bid for bid in held.bids_done if bid[3] == year and bid[5] in gates and bid[4] not in held.failed]
    offers = [(gates.index(bid[5]), gates.index(bid[6]), bid[7]) for bid in bids]
    pence, choice = best_bids(len(gates), offers)
    for at in choice:
        let_by_bid(held, bids[at])


def try_let(held, entry):
    number, day, word, year = entry
    if is_late(day, year):
        return "late"
    if year in held.years_let:
        return "again"
    held.years_let.append(year)
    for one, other, gates in held.own_roads.rows():
        let_road(held, year, gates)
    return None


def make_if_held(held, number, gate, giver, taker, first, last, pence):
    """Makes a lease where its giver is the holder on all its days."""
    if not held.chains.holds(giver, gate, first, last):
        return "none"
    held.chains.make(number, gate, giver, taker, first, last, pence)
    return None


def try_under(held, entry):
    number, day, word, giver, taker, gate, first, last, pence = entry
    if have_failed(held, taker, ()):
        return "failed"
    return make_if_held(held, number, gate, giver, taker, first, last, pence)


def try_anew(held, entry):
    number, day, word, taker, gate, last, pence, sureties = entry
    if have_failed(held, taker, sureties):
        return "failed"
    return make_if_held(held, number, gate, TRUST, taker, day, last, pence)


def try_fail(held, entry):
    number, day, word, name = entry
    if name in held.failed:
        return "failed"
    stood = [(lease, held.chains.days_in_chain(lease)) for lease in held.chains.taken_by(name)]
    held.fail_list.append((entry, len(held.chains.made), stood))
    held.failed.append(name)
    held.chains.take_out(name, day)
    return None


def try_load(held, entry):
    number, day, word, kind, units, one, other = entry
    way = least_way(held.own_roads, no_tolls(held.own_roads), one, other, shut_on(held.own_log, day))
    return "none" if way is None else None


# entries of the other words are never void, and change nothing here
TRIES = {"bid": try_bid, "let": try_let, "under": try_under, "anew": try_anew, "fail": try_fail, "load": try_load}


class Held:
    """Who holds the gates of roads, by the entries of a log."""

    def __init__(self, roads, entries):
        self.own_roads = Roads(roads.rows())
        self.own_log = in_order(entries)
        self.chains = Chains(roads.gates())
        self.void_list = []
        self.bids_done = []
        self.years_let = []
        self.failed = []
        self.fail_list = []
        for entry in self.own_log:
            self.go_through(entry)

    def go_through(self, entry):
        """Does an entry, or notes that it is void."""
        if entry[2] not in TRIES:
            return
        try_entry = TRIES[entry[2]]
        word = try_entry(self, entry)
        if word is not None:
            self.void_list.append((entry[0], word))

    def voids(self):
        return list(self.void_list)

    def leases(self):
        return list(self.chains.made)

    def days_of(self, lease):
        return self.chains.days_in_chain(lease)

    def chain(self, gate, day):
        return list(chain_at(self.chains.turns_of(gate), day))

    def holder(self, gate, day):
        return self.chains.last_taker(self.chain(gate, day))

    def stretches(self, gate):
        return runs_of(self.chains.holders(gate))

    def log(self):
        return list(self.own_log)

    def roads(self):
        return Roads(self.own_roads.rows())

    def fails(self):
        """What was done by fails, in order: (entry, how many leases were made ahead, what stood of the name's ones).

        The last is the list of pairs (lease, Days) of the leases that the name took, with the Days on which they were
        in a chain just ahead.
        """
        return [(entry, many, list(stood)) for entry, many, stood in self.fail_list]
