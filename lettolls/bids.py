"""The choice of bids that brings most, and prices of gates that show it."""


def rank_of(told):
    """What rises from a better (pence, choice) to a worse one."""
    pence, choice = told
    return (-pence, choice)


def best_by_gates(many, bids):
    """The best (pence, choice) of bids for the first gates alone: for none of them, for one, and so on to many."""
    best = [(0, [])]
    for gate in range(many):
        found = [best[gate]]
        for at, (first, last, pence) in enumerate(bids):
            if last == gate:
                ahead, choice = best[first]
                found.append((ahead + pence, sorted([*choice, at])))
        # a bid more makes the less of two choices that bring the same no greater one, so the least may be led on
        best.append(min(found, key=rank_of))
    return best


def best_bids(many, bids):
    """(pence, choice) of the choice that brings most, of several the least list."""
    return best_by_gates(many, bids)[many]


def prices_for(many, bids):
    """A number for each gate: by how much the best choice brings more with this gate than with those ahead of it."""
    best = best_by_gates(many, bids)
    return [best[gate + 1][0] - best[gate][0] for gate in range(many)]
