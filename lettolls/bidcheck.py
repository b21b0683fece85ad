"""Whether prices of gates show that no choice of bids brings more."""

from lettolls.plain import is_number, is_within


def is_choice(bids, thing):
    """Whether anything is a choice of these bids."""
    if not isinstance(thing, list):
        return False
    if not all([is_within(at, 0, len(bids) - 1) for at in thing]):
        return False
    if not all([thing[at] < thing[at + 1] for at in range(len(thing) - 1)]):
        return False
    gates = [gate for at in thing for gate in range(bids[at][0], bids[at][1] + 1)]
    return len(set(gates)) == len(gates)


def are_prices(many, bids, thing):
    """Whether anything is a list of a number for each gate, no bid's pence more than its gates' numbers together."""
    if not isinstance(thing, list) or len(thing) != many:
        return False
    if not all([is_number(price) and price >= 0 for price in thing]):
        return False
    return all([pence <= sum(thing[first:last + 1]) for first, last, pence in bids])


def shows_best(many, bids, choice, prices):
    """Whether choice is a choice, and prices show that none brings more."""
    if not is_choice(bids, choice) or not are_prices(many, bids, prices):
        return False
    return sum(prices) == sum([bids[at][2] for at in choice])
