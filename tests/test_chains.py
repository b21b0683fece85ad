import unittest

from lettolls.chains import Chains
from lettolls.errors import NoGate, NoLease


def chains_of(*leases):
    """Chains of the gates k and l, with these leases (gate, giver, taker, first, last)."""
    chains = Chains(["k", "l"])
    for at, (gate, giver, taker, first, last) in enumerate(leases):
        chains.make(at + 10, gate, giver, taker, first, last, 5)
    return chains


ANN = ("k", "TRUST", "ann", 10, 19)
BOB = ("k", "ann", "bob", 15, 19)


class Make(unittest.TestCase):
    def test_leases_are_numbered_as_they_are_made(self):
        self.assertEqual(chains_of().made, [])
        self.assertEqual(chains_of(ANN, BOB).made,
                         [(0, 10, "k", "TRUST", "ann", 10, 19, 5), (1, 11, "k", "ann", "bob", 15, 19, 5)])

    def test_days(self):
        chains = chains_of(ANN, BOB, ("l", "TRUST", "ann", 0, 3639))
        self.assertEqual([str(chains.days_in_chain(lease)) for lease in range(3)], ["10-19", "15-19", "0-3639"])

    def test_holds(self):
        chains = chains_of(ANN, BOB)
        for name, first, last in (("ann", 10, 14), ("bob", 15, 19), ("TRUST", 0, 9), ("TRUST", 20, 3639), ("ann", 12, 12)):
            self.assertIs(chains.holds(name, "k", first, last), True)
        for name, first, last in (("ann", 9, 14), ("ann", 10, 15), ("bob", 14, 19), ("bob", 15, 20), ("TRUST", 0, 10),
                                  ("TRUST", 9, 20), ("TRUST", 0, 3639), ("ann", 10, 19)):
            self.assertIs(chains.holds(name, "k", first, last), False)
        self.assertIs(chains.holds("TRUST", "l", 0, 3639), True)

    def test_holds_changes_nothing(self):
        chains = chains_of(ANN)
        kept = list(chains.turns_of("k"))
        chains.holds("ann", "k", 12, 13)
        self.assertEqual(chains.turns_of("k"), kept)


class TakeOut(unittest.TestCase):
    def test_from_the_day_on(self):
        chains = chains_of(ANN, BOB, ("l", "TRUST", "bob", 0, 30))
        self.assertEqual((chains.taken_by("ann"), chains.taken_by("bob"), chains.taken_by("cat")), ([0], [1, 2], []))
        chains.take_out("bob", 17)
        self.assertEqual([str(chains.days_in_chain(lease)) for lease in range(3)], ["10-19", "15-16", "0-16"])
        chains.take_out("ann", 12)
        self.assertEqual([str(chains.days_in_chain(lease)) for lease in range(3)], ["10-11", "-", "0-16"])

    def test_of_one_who_took_nothing(self):
        chains = chains_of(ANN, BOB)
        chains.take_out("cat", 0)
        self.assertEqual([str(chains.days_in_chain(lease)) for lease in range(2)], ["10-19", "15-19"])


class Refusals(unittest.TestCase):
    def test_what_there_is_not(self):
        chains = chains_of(ANN)
        for lease in (-1, 1):
            with self.assertRaises(NoLease):
                chains.days_in_chain(lease)
        with self.assertRaises(NoGate):
            chains.turns_of("m")


if __name__ == "__main__":
    unittest.main()
