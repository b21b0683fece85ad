"""Leases in the order in which they were made, and the chains of them that gates have on their days."""

from lettolls.days import LAST_DAY, Days, runs_of
from lettolls.errors import NoGate, NoLease

TRUST = "TRUST"


def chain_at(turns, day):
    """The chain of the last turn that is no later than the day."""
    found = ()
    for start, chain in turns:
        if start <= day:
            found = chain
    return found


def with_turn(turns, day):
    """Turns that tell the same as these, with one on this day."""
    if day > LAST_DAY or day in [start for start, chain in turns]:
        return turns
    return sorted([*turns, (day, chain_at(turns, day))])


def cut_at(chain, taken):
    """What of a chain is ahead of the first of its leases that is one of those taken."""
    for at, lease in enumerate(chain):
        if lease in taken:
            return chain[:at]
    return chain


class Chains:
    """Leases (lease, number, gate, giver, taker, first, last, pence), and the chains of gates."""

    def __init__(self, gates):
        self.made = []
        # by gate, rising, the days from which on it has another chain, each with this chain, a tuple of leases' places
        self.turns = {gate: [(0, ())] for gate in gates}

    def turns_of(self, gate):
        if gate not in self.turns:
            raise NoGate(gate)
        return self.turns[gate]

    def between(self, gate, first, last):
        """The gate's turns, with one on first and one behind last, so that each is wholly from first to last or not."""
        return with_turn(with_turn(self.turns_of(gate), first), last + 1)

    def make(self, number, gate, giver, taker, first, last, pence):
        """Makes a lease, that comes behind the others in the gate's chain on all its days."""
        lease = len(self.made)
        self.made.append((lease, number, gate, giver, taker, first, last, pence))
        turns = self.between(gate, first, last)
        self.turns[gate] = [(day, (*chain, lease) if first <= day <= last else chain) for day, chain in turns]

    def take_out(self, name, day):
        """Takes the leases that the name took, and all behind them, out of all chains, from the day on."""
        taken = self.taken_by(name)
        for gate in list(self.turns):
            turns = with_turn(self.turns[gate], day)
            self.turns[gate] = [(start, cut_at(chain, taken) if start >= day else chain) for start, chain in turns]

    def taken_by(self, name):
        """The leases that the name took, by their places."""
        return [row[0] for row in self.made if row[4] == name]

    def days_in_chain(self, lease):
        """The Days on which a lease is in its gate's chain."""
        if not 0 <= lease < len(self.made):
            raise NoLease(lease)
        runs = runs_of(self.turns[self.made[lease][2]])
        return Days([(first, last) for first, last, chain in runs if lease in chain])

    def last_taker(self, chain):
        """Who holds a gate that has this chain."""
        return self.made[chain[-1]][4] if chain else TRUST

    def holders(self, gate):
        """The pairs (day, holder), rising: from this day on the gate has this holder, maybe the same as ahead."""
        return [(day, self.last_taker(chain)) for day, chain in self.turns_of(gate)]

    def holds(self, name, gate, first, last):
        """Whether the name is the holder of the gate on each day from first to last."""
        turns = self.between(gate, first, last)
        return all([self.last_taker(chain) == name for day, chain in turns if first <= day <= last])
