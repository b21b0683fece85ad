"""What those who fail leave, and who answers for it."""

from lettolls.days import LAST_DAY, Days, quarter_of, quarter_span
from lettolls.dues import due_of, parts_on
from lettolls.entries import shut_days
from lettolls.shares import split_by


def days_from(day):
    """The Days from this one on."""
    return Days([(day, LAST_DAY)])


def regained(rows, lost):
    """The parts, on lost days, of the first of these leases that is for the day, together."""
    pence = 0
    left = lost
    for row in rows:
        days = left.common(Days([row[5:7]]))
        pence += parts_on(row, days)
        left = left.without(days)
    return pence


def loss_of(held, lease, taken_out, many):
    """What is lost by the days taken out of a lease, less what leases made behind, from place many on, bring again."""
    rows = held.leases()
    gate, giver = rows[lease][2:4]
    lost = taken_out.without(shut_days(held.log(), gate))
    again = [row for row in rows[many:] if row[2] == gate and row[3] == giver]
    return max(0, parts_on(rows[lease], lost) - regained(again, lost))


def sureties_of(held, number):
    """The sureties of the entry of this number."""
    found = [entry for entry in held.log() if entry[0] == number]
    # an under has none
    return found[0][-1] if found[0][2] in ("bid", "anew") else ()


def answers_of(total, sureties):
    """The pairs (surety, pence) of a total split by the sureties' weights, [] without any."""
    if not sureties:
        return []
    parts = split_by(total, [weight for name, weight in sureties])
    return [(name, part) for (name, weight), part in zip(sureties, parts)]


def fallen_lease(held, fail, lease, stood, failed):
    """What the failing leaves of one lease that stood on these Days; failed are those who failed ahead of it."""
    entry, many = fail
    day = entry[1]
    row = held.leases()[lease]
    unpaid = due_of(held, lease, quarter_span(quarter_of(day))[0], day - 1)
    loss = loss_of(held, lease, stood.common(days_from(day)), many)
    sureties = [pair for pair in sureties_of(held, row[1]) if pair[0] not in failed]
    answers = answers_of(unpaid + loss, sureties)
    rest = unpaid + loss - sum([pence for name, pence in answers])
    return (entry[0], lease, row[3], unpaid, loss, answers, rest)


def fallen(held):
    """The list of (number, lease, giver, unpaid, loss, answers, rest), by fails and for each by leases."""
    found = []
    failed = []
    for entry, many, leases in held.fails():
        first = quarter_span(quarter_of(entry[1]))[0]
        for lease, stood in leases:
            if stood.common(days_from(first)).first_day() is not None:
                found.append(fallen_lease(held, (entry, many), lease, stood, failed))
        failed.append(entry[3])
    return found
