"""What is owed for leases, by days and quarters, and who bears what isn't, of a gate that is shut."""

from lettolls.chains import TRUST
from lettolls.days import Days, quarter_span
from lettolls.entries import shut_days
from lettolls.shares import part_of


def parts_on(lease_row, days):
    """What falls of a lease's pence on these days, all of them its own, together."""
    first, last, pence = lease_row[5:]
    many = last - first + 1
    return sum([part_of(pence, many, start - first, end - first) for start, end in days.spans()])


def due_of(held, lease, first, last):
    """The parts of a lease's days from first to last on which it stands and its gate is open, together."""
    days = held.days_of(lease)
    if first > last:
        return 0
    row = held.leases()[lease]
    unshut = days.without(shut_days(held.log(), row[2]))
    return parts_on(row, unshut.common(Days([(first, last)])))


def failed_by(held, day):
    """The names of those who have failed on the day or ahead of it."""
    return [entry[3] for entry, many, stood in held.fails() if entry[1] <= day]


def dues_at(held, quarter):
    """The rising list of (giver, taker, gate, lease, pence), above 0, of what is due for the quarter's days."""
    first, last = quarter_span(quarter)
    failed = failed_by(held, last)
    found = []
    for lease, number, gate, giver, taker, start, end, whole in held.leases():
        # most leases are for none of the quarter's days, which is told more quickly so
        if taker not in failed and start <= last and first <= end:
            pence = due_of(held, lease, first, last)
            if pence > 0:
                found.append((giver, taker, gate, lease, pence))
    return sorted(found)


def borne(held, gate, day):
    """Of a day on which the gate is shut the pairs (name, pence) of who bears what; [] of an open one."""
    chain = held.chain(gate, day)
    if not shut_days(held.log(), gate).has(day):
        return []
    rows = held.leases()
    names = [TRUST] + [rows[lease][4] for lease in chain]
    parts = [parts_on(rows[lease], Days([(day, day)])) for lease in chain]
    # each one gives the lease behind, and took the one ahead: TRUST took none, the last one gives none
    return [(name, given - taken) for name, given, taken in zip(names, [*parts, 0], [0, *parts])]
