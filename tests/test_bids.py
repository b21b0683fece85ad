import itertools
import random
import unittest

from lettolls.bids import best_bids, prices_for


def all_choices(bids):
    """(pence, choice) of every choice, reckoned without the program."""
    for many in range(len(bids) + 1):
        for choice in itertools.combinations(range(len(bids)), many):
            gates = [gate for at in choice for gate in range(bids[at][0], bids[at][1] + 1)]
            if len(gates) == len(set(gates)):
                yield sum(bids[at][2] for at in choice), list(choice)


def some_bids(chance, many, most_bids, most_pence):
    bids = []
    for _ in range(chance.randint(0, most_bids)):
        first = chance.randrange(many)
        bids.append((first, chance.randrange(first, many), chance.randint(1, most_pence)))
    return bids


def most_by_gates(many, bids):
    """The most that can be had, by another reckoning than the program's: from the last gate on."""
    most = [0] * (many + 1)
    for gate in range(many - 1, -1, -1):
        most[gate] = max([most[gate + 1]] + [pence + most[last + 1] for first, last, pence in bids if first == gate])
    return most[0]


class BestBids(unittest.TestCase):
    def check(self, many, bids, pence, choice):
        told = best_bids(many, bids)
        self.assertEqual(told, (pence, choice))
        self.assertEqual((type(told), type(told[0]), type(told[1])), (tuple, int, list))

    def test_no_bids(self):
        for many in (1, 5, 10):
            self.check(many, [], 0, [])

    def test_one_bid(self):
        self.check(1, [(0, 0, 1)], 1, [0])
        self.check(10, [(3, 7, 10 ** 6)], 10 ** 6, [0])
        self.check(10, [(0, 9, 5)], 5, [0])
        self.check(10, [(9, 9, 5)], 5, [0])

    def test_bids_that_touch(self):
        self.check(3, [(0, 1, 5), (2, 2, 3)], 8, [0, 1])
        self.check(3, [(2, 2, 3), (0, 1, 5)], 8, [0, 1])
        self.check(4, [(3, 3, 1), (2, 2, 1), (1, 1, 1), (0, 0, 1)], 4, [0, 1, 2, 3])

    def test_bids_apart(self):
        self.check(9, [(7, 8, 2), (0, 1, 5), (4, 4, 1)], 8, [0, 1, 2])

    def test_bids_that_overlap(self):
        self.check(3, [(0, 1, 5), (1, 2, 6)], 6, [1])
        self.check(3, [(0, 1, 5), (1, 2, 4)], 5, [0])
        self.check(5, [(0, 2, 5), (1, 3, 8), (3, 4, 4)], 9, [0, 2])
        self.check(5, [(0, 2, 5), (1, 3, 10), (3, 4, 4)], 10, [1])
        self.check(3, [(0, 2, 5), (1, 1, 4)], 5, [0])
        self.check(3, [(0, 2, 5), (1, 1, 6)], 6, [1])

    def test_the_same_bid_several_times(self):
        self.check(2, [(0, 1, 5), (0, 1, 5), (0, 1, 5)], 5, [0])
        self.check(2, [(0, 0, 5), (0, 0, 5), (1, 1, 5), (1, 1, 5)], 10, [0, 2])
        self.check(2, [(0, 1, 5), (0, 1, 6), (0, 1, 6)], 6, [1])

    def test_of_several_that_bring_most_the_least_list(self):
        self.check(2, [(1, 1, 3), (0, 1, 5), (0, 0, 2)], 5, [0, 2])
        self.check(2, [(0, 1, 5), (1, 1, 3), (0, 0, 2)], 5, [0])
        self.check(2, [(0, 0, 2), (0, 1, 5), (1, 1, 3)], 5, [0, 2])
        # [0, 3] is less than [1, 2], and [0, 1, 5] than [0, 2]
        self.check(4, [(0, 0, 1), (0, 1, 2), (2, 3, 2), (1, 3, 3)], 4, [0, 3])
        self.check(3, [(0, 0, 1), (1, 1, 1), (1, 2, 3), (2, 2, 1), (1, 1, 1), (2, 2, 2)], 4, [0, 1, 5])

    def test_the_least_list_by_a_bid_for_later_gates(self):
        self.check(4, [(3, 3, 1), (0, 1, 2), (1, 2, 2)], 3, [0, 1])
        self.check(4, [(3, 3, 1), (1, 2, 2), (0, 1, 2)], 3, [0, 1])
        self.check(4, [(2, 3, 2), (0, 1, 3), (0, 0, 3), (1, 3, 2)], 5, [0, 1])

    def test_great_pence(self):
        self.check(10, [(gate, gate, 10 ** 6) for gate in range(10)], 10 ** 7, list(range(10)))
        self.check(10, [(0, 9, 10 ** 6), (0, 4, 499999), (5, 9, 500002)], 1000001, [1, 2])

    def test_compared_with_all_choices(self):
        chance = random.Random(61)
        for _ in range(400):
            many = chance.randint(1, 10)
            bids = some_bids(chance, many, 9, chance.choice([1, 3, 20]))
            most = max(pence for pence, _ in all_choices(bids))
            least = min(choice for pence, choice in all_choices(bids) if pence == most)
            with self.subTest(many=many, bids=bids):
                self.check(many, bids, most, least)

    def test_ten_gates_and_a_hundred_bids(self):
        chance = random.Random(62)
        for top in (1, 10, 10 ** 6) * 5:
            bids = [bid for _ in range(100) for bid in some_bids(chance, 10, 9, top)][:100]
            self.assertEqual(len(bids), 100)
            pence, choice = best_bids(10, bids)
            gates = [gate for at in choice for gate in range(bids[at][0], bids[at][1] + 1)]
            self.assertEqual(len(gates), len(set(gates)))
            self.assertEqual(choice, sorted(choice))
            self.assertEqual(sum(bids[at][2] for at in choice), pence)
            self.assertEqual(pence, most_by_gates(10, bids))

    def test_a_hundred_like_bids(self):
        self.check(10, [(0, 9, 7)] * 100, 7, [0])
        self.check(10, [(at % 10, at % 10, 7) for at in range(100)], 70, list(range(10)))

    def test_what_is_handed_in_stays(self):
        bids = [(1, 2, 6), (0, 1, 5), (2, 2, 1)]
        best_bids(3, bids)
        prices_for(3, bids)
        self.assertEqual(bids, [(1, 2, 6), (0, 1, 5), (2, 2, 1)])

    def test_told_lists_are_the_askers_own(self):
        for bids, kept in (([], []), ([(0, 1, 5)], [0])):
            told, again = best_bids(3, bids), best_bids(3, bids)
            self.assertIsNot(told[1], again[1])
            told[1].append(9)
            self.assertEqual(again[1], kept)
            self.assertEqual(best_bids(3, bids)[1], kept)
            prices, prices_again = prices_for(3, bids), prices_for(3, bids)
            self.assertEqual(prices, prices_again)
            self.assertIsNot(prices, prices_again)
            prices.clear()
            self.assertEqual(prices_for(3, bids), prices_again)

    def test_arguments_by_their_names(self):
        self.assertEqual(best_bids(many=2, bids=[(0, 1, 5)]), (5, [0]))
        self.assertEqual(best_bids(bids=[(0, 1, 5)], many=2), (5, [0]))
        self.assertEqual(sum(prices_for(many=2, bids=[(0, 1, 5)])), 5)


class PricesFor(unittest.TestCase):
    def check(self, many, bids):
        prices = prices_for(many, bids)
        with self.subTest(many=many, bids=bids, prices=prices):
            self.assertIs(type(prices), list)
            self.assertEqual(len(prices), many)
            self.assertTrue(all(type(price) is int and price >= 0 for price in prices))
            self.assertEqual(sum(prices), best_bids(many, bids)[0])
            for first, last, pence in bids:
                self.assertLessEqual(pence, sum(prices[first:last + 1]))

    def test_no_bids(self):
        for many in (1, 5, 10):
            self.assertEqual(prices_for(many, []), [0] * many)

    def test_one_bid(self):
        self.assertEqual(prices_for(1, [(0, 0, 5)]), [5])
        self.check(10, [(3, 7, 10 ** 6)])

    def test_bids_that_touch_overlap_and_are_the_same(self):
        self.check(3, [(0, 1, 5), (2, 2, 3)])
        self.check(3, [(0, 1, 5), (1, 2, 6)])
        self.check(3, [(0, 1, 5), (1, 2, 6), (0, 0, 3), (2, 2, 3), (1, 1, 1)])
        self.check(2, [(0, 1, 5), (0, 1, 5)])

    def test_gates_that_are_in_no_best_choice(self):
        self.check(5, [(0, 1, 1), (1, 3, 9), (3, 4, 1)])

    def test_any(self):
        chance = random.Random(63)
        for _ in range(300):
            many = chance.randint(1, 10)
            self.check(many, some_bids(chance, many, chance.choice([3, 12, 100]), chance.choice([1, 5, 10 ** 6])))


if __name__ == "__main__":
    unittest.main()
