import itertools
import random
import unittest

from lettolls.bidcheck import shows_best
from lettolls.bids import best_bids, prices_for
from things import THINGS, some_thing, with_part

# the best choice is [0, 2], which brings 9
BIDS = [(0, 2, 5), (1, 3, 8), (3, 4, 4)]
CHOICE = [0, 2]
PRICES = [1, 0, 4, 4, 0]


def some_bids(chance, many, most_bids):
    bids = []
    for _ in range(chance.randint(0, most_bids)):
        first = chance.randrange(many)
        bids.append((first, chance.randrange(first, many), chance.randint(1, 9)))
    return bids


def shown(many, bids, choice, prices):
    """Whether it is shown, reckoned without the program."""
    if type(choice) is not list or any(type(at) is not int or at not in range(len(bids)) for at in choice):
        return False
    if choice != sorted(set(choice)):
        return False
    for one, other in itertools.combinations(choice, 2):
        if set(range(bids[one][0], bids[one][1] + 1)) & set(range(bids[other][0], bids[other][1] + 1)):
            return False
    if type(prices) is not list or len(prices) != many:
        return False
    if any(type(price) is not int or price < 0 for price in prices):
        return False
    if any(pence > sum(prices[gate] for gate in range(first, last + 1)) for first, last, pence in bids):
        return False
    return sum(prices) == sum(bids[at][2] for at in choice)


class ShowsBest(unittest.TestCase):
    def check(self, expected, choice=CHOICE, prices=PRICES, many=5, bids=BIDS):
        with self.subTest(many=many, bids=bids, choice=choice, prices=prices):
            self.assertIs(shows_best(many, bids, choice, prices), expected)

    def test_takes_the_best_bids_with_their_prices(self):
        self.check(True)
        self.check(True, best_bids(5, BIDS)[1], prices_for(5, BIDS))

    def test_no_bids(self):
        for many in (1, 5, 10):
            self.check(True, [], [0] * many, many, [])
            self.check(False, [], [0] * (many - 1) + [1], many, [])

    def test_several_prices_may_show_it(self):
        for prices in ([1, 0, 4, 4, 0], [1, 4, 0, 4, 0], [0, 1, 4, 4, 0], [0, 5, 0, 4, 0], [1, 2, 2, 4, 0]):
            self.check(True, prices=prices)

    def test_several_choices_may_be_shown(self):
        bids = [(0, 0, 2), (0, 1, 5), (1, 1, 3)]
        self.check(True, [0, 2], [2, 3], 2, bids)
        self.check(True, [1], [2, 3], 2, bids)

    def test_a_choice_that_brings_less(self):
        for choice in ([], [0], [1], [2]):
            self.check(False, choice)
        self.check(False, [1], [0, 0, 4, 4, 0])
        self.check(False, [1], [0, 0, 8, 0, 0])

    def test_a_choice_that_doesnt_rise(self):
        self.check(False, [2, 0])
        self.check(False, [0, 2, 2])
        self.check(False, [0, 0, 2])
        self.check(False, [1, 1], [5, 5], 2, [(0, 0, 5), (1, 1, 5)])
        self.check(False, [1, 0], [5, 5], 2, [(0, 0, 5), (1, 1, 5)])
        self.check(True, [0, 1], [5, 5], 2, [(0, 0, 5), (1, 1, 5)])

    def test_a_choice_whose_bids_overlap(self):
        self.check(False, [0, 1], [0, 5, 4, 4, 0])
        self.check(False, [0, 1], [5, 5], 2, [(0, 1, 5), (0, 1, 5)])
        self.check(False, [0, 1], [3, 4, 3], 3, [(0, 1, 5), (1, 2, 5)])
        self.check(False, [0, 1, 2], [5, 4, 4, 4, 0])
        self.check(False, [0, 2], [2, 6, 2], 3, [(0, 2, 5), (0, 0, 1), (1, 1, 5)])

    def test_a_choice_of_bids_that_there_arent(self):
        for choice in ([3], [0, 3], [-1], [-3, -1], [0, -1], [-1, 0], [0, 2, 3], [0, 2, 10 ** 30], [-3, 2]):
            self.check(False, choice)
        self.check(False, [0], [0], 1, [])
        self.check(False, [-1], [5], 1, [(0, 0, 5)])

    def test_true_and_false_for_a_number_of_a_choice(self):
        self.check(False, [False, 2])
        self.check(False, [False, True], [5, 5], 2, [(0, 0, 5), (1, 1, 5)])
        self.check(False, [0, True], [5, 5], 2, [(0, 0, 5), (1, 1, 5)])
        self.check(False, [False], [5], 1, [(0, 0, 5)])

    def test_prices_too_few_and_too_many(self):
        self.check(False, prices=[1, 0, 4, 4])
        self.check(False, prices=[1, 0, 4, 4, 0, 0])
        self.check(False, prices=[])
        self.check(False, prices=[9])
        self.check(False, [], [], 1, [])
        self.check(False, [], [0, 0], 1, [])

    def test_prices_below_0(self):
        self.check(False, prices=[1, -1, 5, 5, -1])
        self.check(False, prices=[2, 0, 4, 4, -1])
        self.check(False, prices=[-1, 2, 4, 4, 0])
        # they would show less than there is to be had
        self.check(False, [], [5, -5], 2, [(0, 0, 5)])
        self.check(False, [], [1, -1], 2, [])
        self.check(False, [], [-1, 1], 2, [])

    def test_one_penny_off(self):
        for at in range(5):
            for more in (-1, 1):
                self.check(False, prices=with_part(PRICES, at, PRICES[at] + more))
        # all together right, but one bid's pence are more by one
        self.check(False, prices=[2, 0, 4, 3, 0])
        self.check(False, prices=[0, 0, 4, 4, 1])
        self.check(False, prices=[1, 0, 5, 3, 0])
        self.check(True, prices=[1, 0, 5, 3, 0], bids=[(0, 2, 5), (1, 3, 8), (3, 4, 3), (0, 4, 9)], choice=[3])

    def test_a_bid_at_either_end(self):
        self.check(True, [0, 1], [3, 0, 4], 3, [(0, 0, 3), (2, 2, 4)])
        self.check(False, [0, 1], [2, 1, 4], 3, [(0, 0, 3), (2, 2, 4)])
        self.check(False, [0, 1], [3, 1, 3], 3, [(0, 0, 3), (2, 2, 4)])

    def test_true_and_false_for_a_price(self):
        self.check(False, prices=[True, 0, 4, 4, 0])
        self.check(False, prices=[1, False, 4, 4, 0])
        self.check(False, [], [False], 1, [])

    def test_choices_and_prices_that_are_no_lists(self):
        self.check(False, choice=tuple(CHOICE))
        self.check(False, prices=tuple(PRICES))
        self.check(False, choice="02")
        self.check(False, prices="10440")
        self.check(False, (), [0], 1, [])
        self.check(False, "", [0], 1, [])
        self.check(False, None, [0], 1, [])

    def test_things_of_any_make(self):
        for thing in THINGS:
            self.check(False, choice=thing)
            self.check(False, prices=thing)
            self.check(False, thing, thing)
            for at in range(2):
                choice = with_part(CHOICE, at, thing)
                self.check(shown(5, BIDS, choice, PRICES), choice=choice)
            for at in range(5):
                prices = with_part(PRICES, at, thing)
                self.check(shown(5, BIDS, CHOICE, prices), prices=prices)

    def test_any_things(self):
        chance = random.Random(71)
        for _ in range(2000):
            choice, prices = some_thing(chance), some_thing(chance)
            self.check(shown(1, [], choice, prices), choice, prices, 1, [])
            self.check(shown(2, [(0, 1, 1)], choice, prices), choice, prices, 2, [(0, 1, 1)])
            self.check(False, choice=choice)
            self.check(False, prices=prices)

    def test_any_bids(self):
        chance = random.Random(72)
        for _ in range(300):
            many = chance.randint(1, 10)
            bids = some_bids(chance, many, chance.choice([4, 20, 100]))
            choice, prices = best_bids(many, bids)[1], prices_for(many, bids)
            self.check(True, choice, prices, many, bids)
            for _ in range(8):
                at = chance.randrange(many)
                changed = with_part(prices, at, prices[at] + chance.choice([-1, 0, 1]))
                other = chance.randrange(many)
                changed[other] += chance.choice([-1, 0, 1])
                chosen = list(choice)
                if chosen and chance.random() < 0.5:
                    chosen[chance.randrange(len(chosen))] = chance.randrange(len(bids))
                self.check(shown(many, bids, chosen, changed), chosen, changed, many, bids)

    def test_a_choice_that_isnt_best_is_never_shown(self):
        bids = [(0, 1, 3), (1, 2, 3), (0, 0, 1), (2, 2, 1)]
        for choice in ([], [0], [1], [2], [3], [2, 3]):
            for prices in itertools.product(range(-1, 5), repeat=3):
                self.check(False, choice, list(prices), 3, bids)

    def test_what_is_handed_in_stays(self):
        bids, choice, prices = list(BIDS), list(CHOICE), list(PRICES)
        shows_best(5, bids, choice, prices)
        self.assertEqual((bids, choice, prices), (BIDS, CHOICE, PRICES))

    def test_arguments_by_their_names(self):
        self.assertIs(shows_best(many=5, bids=BIDS, choice=CHOICE, prices=PRICES), True)
        self.assertIs(shows_best(prices=PRICES, choice=[], bids=BIDS, many=5), False)


if __name__ == "__main__":
    unittest.main()
