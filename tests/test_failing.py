import random
import unittest

from lettolls.failing import fallen
from lettolls.holding import Held
from logs import ROADS, held_by, some_story
from models import Model

# ten days, from 10 to 19, of which the parts are 2 3 2 3 2 3 2 3 2 3
TEN = "1 10 anew ann quay 19 25\n"
# ann's until the day 15: 12 pence are unpaid then, 13 lost
FALLEN = TEN + "2 15 fail ann\n"
# all of year 1, 364 days, a penny each
YEAR = "1 0 bid 1 ann quay quay 364\n2 300 let 1\n"


class Fallen(unittest.TestCase):
    def check(self, text, *expected):
        told = fallen(held_by(text))
        self.assertEqual(told, list(expected))
        for row in told:
            self.assertIsInstance(row, tuple)
            self.assertEqual(row[3] + row[4], row[6] + sum(pence for name, pence in row[5]))

    def test_no_fail(self):
        self.check("")
        self.check(TEN)

    def test_one_who_took_nothing(self):
        self.check("2 15 fail ann")
        self.check(TEN + "2 15 fail bob")
        self.check("2 9 fail ann\n" + TEN)

    def test_a_fail(self):
        self.check(FALLEN, (2, 0, "TRUST", 12, 13, [], 25))

    def test_a_void_fail(self):
        self.check(FALLEN + "3 15 fail ann\n4 16 fail ann", (2, 0, "TRUST", 12, 13, [], 25))

    def test_by_its_day(self):
        for day, unpaid, loss in ((10, 0, 25), (11, 2, 23), (14, 10, 15), (19, 22, 3), (20, 25, 0), (90, 25, 0)):
            self.check(TEN + f"2 {day} fail ann", (2, 0, "TRUST", unpaid, loss, [], 25))

    def test_a_lease_that_ended_ahead_of_the_quarter(self):
        self.check(TEN + "2 91 fail ann")
        self.check(TEN + "2 3639 fail ann")
        self.check("1 10 anew ann quay 90 5\n2 91 fail ann")
        self.check("1 10 anew ann quay 91 82\n2 91 fail ann", (2, 0, "TRUST", 0, 1, [], 1))
        self.check("1 10 anew ann quay 91 82\n2 92 fail ann", (2, 0, "TRUST", 1, 0, [], 1))

    def test_on_the_quarters_first_and_last_days(self):
        self.check(YEAR + "3 364 fail ann", (3, 0, "TRUST", 0, 364, [], 364))
        self.check(YEAR + "3 454 fail ann", (3, 0, "TRUST", 90, 274, [], 364))
        self.check(YEAR + "3 455 fail ann", (3, 0, "TRUST", 0, 273, [], 273))
        self.check(YEAR + "3 456 fail ann", (3, 0, "TRUST", 1, 272, [], 273))
        self.check(YEAR + "3 727 fail ann", (3, 0, "TRUST", 90, 1, [], 91))
        self.check(YEAR + "3 728 fail ann")

    def test_the_first_day_and_the_last_day_of_all(self):
        self.check("1 0 anew ann quay 0 5\n2 0 fail ann", (2, 0, "TRUST", 0, 5, [], 5))
        self.check("1 3639 anew ann quay 3639 5\n2 3639 fail ann", (2, 0, "TRUST", 0, 5, [], 5))

    def test_a_lease_that_begins_behind(self):
        self.check(YEAR + "3 301 fail ann", (3, 0, "TRUST", 0, 364, [], 364))
        self.check(YEAR + "3 301 fail ann\n4 300 under ann bob quay 700 709 50\n5 302 fail bob",
                   (3, 0, "TRUST", 0, 364, [], 364))
        self.check(YEAR + "3 301 fail bob\n4 300 under ann bob quay 700 709 50", (3, 1, "ann", 0, 50, [], 50))

    def test_shut_days(self):
        self.check(FALLEN + "3 0 shut quay 11 11", (2, 0, "TRUST", 9, 13, [], 22))
        self.check(FALLEN + "3 0 shut quay 15 16", (2, 0, "TRUST", 12, 8, [], 20))
        self.check(FALLEN + "3 0 shut quay 14 15", (2, 0, "TRUST", 10, 10, [], 20))
        self.check(FALLEN + "3 16 shut quay 19 99", (2, 0, "TRUST", 12, 10, [], 22))
        self.check(FALLEN + "3 0 shut quay 0 3639", (2, 0, "TRUST", 0, 0, [], 0))
        self.check(FALLEN + "3 0 shut east 0 3639", (2, 0, "TRUST", 12, 13, [], 25))

    def test_let_anew_for_all(self):
        for pence, loss in ((0, 13), (5, 8), (10, 3), (12, 1), (13, 0), (14, 0), (1000, 0)):
            self.check(FALLEN + f"3 15 anew dan quay 19 {pence}", (2, 0, "TRUST", 12, loss, [], 12 + loss))

    def test_let_anew_for_some(self):
        # of the days 18 and 19 five pence each, which is more than was lost of them
        self.check(FALLEN + "3 18 anew dan quay 19 10", (2, 0, "TRUST", 12, 3, [], 15))
        self.check(FALLEN + "3 15 anew dan quay 15 2", (2, 0, "TRUST", 12, 11, [], 23))
        self.check(FALLEN + "3 18 anew dan quay 19 14", (2, 0, "TRUST", 12, 0, [], 12))

    def test_let_anew_for_days_beyond(self):
        # ten days, a penny each, of which five had been ann's
        self.check(FALLEN + "3 15 anew dan quay 24 10", (2, 0, "TRUST", 12, 8, [], 20))
        self.check(FALLEN + "3 20 anew dan quay 24 10", (2, 0, "TRUST", 12, 13, [], 25))

    def test_let_anew_of_another_gate(self):
        self.check(FALLEN + "3 15 anew dan east 19 10", (2, 0, "TRUST", 12, 13, [], 25))

    def test_let_anew_and_shut(self):
        # of a day on which the gate is shut nothing is lost, and nothing had again
        self.check(FALLEN + "3 15 anew dan quay 19 5\n4 0 shut quay 16 18", (2, 0, "TRUST", 12, 4, [], 16))
        self.check(FALLEN + "3 15 anew dan quay 19 500\n4 0 shut quay 15 19", (2, 0, "TRUST", 12, 0, [], 12))

    def test_let_anew_behind_several(self):
        # dan's lease is made ahead of eve's, though it falls too: it counts on all its days
        self.check(FALLEN + "3 15 anew dan quay 19 5\n4 17 fail dan\n5 17 anew eve quay 19 30",
                   (2, 0, "TRUST", 12, 8, [], 20), (4, 1, "TRUST", 2, 0, [], 2))
        self.check(FALLEN + "3 15 anew dan quay 16 2\n4 17 anew eve quay 18 4", (2, 0, "TRUST", 12, 7, [], 19))
        self.check(FALLEN + "3 15 anew dan quay 17 3\n4 16 fail dan\n5 17 anew eve quay 19 9",
                   (2, 0, "TRUST", 12, 4, [], 16), (4, 1, "TRUST", 1, 0, [], 1))

    def test_a_lease_made_ahead_of_the_failing(self):
        # bob's lease of the days 17 to 19, by the same giver, stood ahead
        self.check("1 10 anew ann quay 16 70\n2 10 fail zoe\n3 17 anew bob quay 19 30\n4 17 fail ann",
                   (4, 0, "TRUST", 70, 0, [], 70))
        # the first one who failed had the gate by ann, as had bob ahead, whose lease is for the same days
        self.check(TEN + "2 10 under ann bob quay 14 16 30\n3 11 fail bob\n4 12 under ann cat quay 14 16 6\n5 13 fail cat",
                   (3, 1, "ann", 0, 24, [], 24), (5, 2, "ann", 0, 6, [], 6))

    def test_let_on_anew_by_another_giver(self):
        # cat, who had it of bob, falls, then bob too, and ann lets it on to dan
        chain = YEAR + "3 350 under ann bob quay 400 409 30\n4 350 under bob cat quay 400 409 50\n"
        self.check(chain + "5 400 fail cat\n6 400 fail bob\n7 400 under ann dan quay 400 409 20",
                   (5, 2, "bob", 0, 50, [], 50), (6, 1, "ann", 0, 10, [], 10))

    def test_let_on_anew_by_the_same_giver(self):
        chain = YEAR + "3 350 under ann bob quay 400 409 30\n"
        self.check(chain + "5 405 fail bob\n6 405 under ann dan quay 405 409 5", (5, 1, "ann", 15, 10, [], 25))
        # the same giver's lease of another gate is none of this one's
        self.check("1 0 anew ann quay 9 10\n2 0 anew ann east 9 10\n3 0 under ann bob quay 0 9 30\n4 5 fail bob\n"
                   "5 5 under ann dan east 5 9 50", (4, 2, "ann", 15, 15, [], 30))

    def test_answers(self):
        for sureties, answers in (("bob 1", [("bob", 25)]), ("bob 2 cat 1", [("bob", 16), ("cat", 9)]),
                                  ("cat 1 bob 2", [("cat", 8), ("bob", 17)]),
                                  ("bob 1 cat 99", [("bob", 0), ("cat", 25)]),
                                  ("bob 1 cat 1 dan 1 eve 1", [("bob", 6), ("cat", 6), ("dan", 6), ("eve", 7)]),
                                  ("zoe 3 bob 3 cat 1", [("zoe", 10), ("bob", 11), ("cat", 4)])):
            self.check(f"1 10 anew ann quay 19 25 {sureties}\n2 15 fail ann", (2, 0, "TRUST", 12, 13, answers, 0))

    def test_answers_of_a_bid(self):
        self.check("1 0 bid 1 ann east mid 728 bob 2 cat 1\n2 300 let 1\n3 374 fail ann",
                   (3, 0, "TRUST", 10, 354, [("bob", 242), ("cat", 122)], 0),
                   (3, 1, "TRUST", 10, 354, [("bob", 242), ("cat", 122)], 0))

    def test_answers_of_nothing(self):
        self.check("1 10 anew ann quay 19 0 bob 1 cat 2\n2 15 fail ann", (2, 0, "TRUST", 0, 0, [("bob", 0), ("cat", 0)], 0))

    def test_an_under_has_no_sureties(self):
        self.check("1 10 anew ann quay 19 25 bob 1\n2 10 under ann cat quay 15 19 10\n3 16 fail cat",
                   (3, 1, "ann", 2, 8, [], 10))

    def test_sureties_who_failed_ahead(self):
        one = "1 10 anew ann quay 19 25 bob 2 cat 1\n5 15 fail ann\n"
        self.check(one + "2 14 fail bob", (5, 0, "TRUST", 12, 13, [("cat", 25)], 0))
        self.check(one + "2 14 fail cat", (5, 0, "TRUST", 12, 13, [("bob", 25)], 0))
        self.check(one + "2 14 fail cat\n3 13 fail bob", (5, 0, "TRUST", 12, 13, [], 25))
        self.check(one + "2 15 fail bob", (5, 0, "TRUST", 12, 13, [("cat", 25)], 0))

    def test_sureties_who_fail_behind(self):
        one = "1 10 anew ann quay 19 25 bob 2 cat 1\n5 15 fail ann\n"
        for row in ("6 15 fail bob", "2 16 fail bob\n3 16 fail cat", "2 500 fail cat"):
            self.check(one + row, (5, 0, "TRUST", 12, 13, [("bob", 16), ("cat", 9)], 0))

    def test_a_name_that_took_several_leases(self):
        # all of one failing, by the leases' places, not by gates or days
        self.check("1 0 bid 1 ann quay quay 364\n2 300 let 1\n3 10 anew ann west 363 354 bob 1\n"
                   "4 11 anew ann east 12 9\n5 320 fail ann",
                   (5, 0, "TRUST", 47, 44, [("bob", 91)], 0), (5, 2, "TRUST", 0, 364, [], 364))

    def test_a_name_that_took_twice_in_one_chain(self):
        self.check(TEN + "2 10 under ann bob quay 12 17 60\n3 10 under bob ann quay 14 16 9\n4 15 fail ann",
                   (4, 0, "TRUST", 12, 13, [], 25), (4, 2, "bob", 3, 6, [], 9))

    def test_fails_of_two_in_one_chain(self):
        chain = TEN + "2 10 under ann bob quay 12 17 60\n"
        # bob's lease is taken out by ann's failing, so nothing more is lost of it by his own
        self.check(chain + "3 15 fail ann\n4 16 fail bob", (3, 0, "TRUST", 12, 13, [], 25), (4, 1, "ann", 30, 0, [], 30))
        self.check(chain + "3 15 fail bob\n4 16 fail ann", (3, 1, "ann", 30, 30, [], 60), (4, 0, "TRUST", 15, 10, [], 25))
        self.check(chain + "3 11 fail ann\n4 16 fail bob", (3, 0, "TRUST", 2, 23, [], 25))
        self.check(chain + "3 15 fail ann\n4 91 fail bob", (3, 0, "TRUST", 12, 13, [], 25))

    def test_fails_in_order(self):
        self.check("1 0 anew ann east 9 10\n2 0 anew bob quay 9 20\n9 5 fail bob\n8 6 fail ann\n7 6 fail cat",
                   (9, 1, "TRUST", 10, 10, [], 20), (8, 0, "TRUST", 6, 4, [], 10))

    def test_own_lists(self):
        held = held_by("1 0 bid 1 ann east mid 728 bob 2 cat 1\n2 300 let 1\n3 374 fail ann")
        kept = fallen(held)
        for row in fallen(held):
            row[5].clear()
        fallen(held).clear()
        self.assertEqual(fallen(held), kept)
        lists = [told for again in (kept, fallen(held)) for told in (again, *[row[5] for row in again])]
        self.assertEqual(len({id(told) for told in lists}), 6)
        held = held_by(TEN + "2 11 anew bob east 12 5\n3 11 fail ann\n4 11 fail bob")
        one, other = fallen(held)
        one[5].append("x")
        self.assertEqual(other[5], [])

    def test_the_argument_by_its_name(self):
        self.assertEqual(fallen(held=held_by(FALLEN)), [(2, 0, "TRUST", 12, 13, [], 25)])


class AnyLogs(unittest.TestCase):
    def test_as_reckoned_day_by_day(self):
        chance = random.Random(111)
        seen = {"unpaid": 0, "loss": 0, "some": 0, "answers": 0, "rest": 0, "under": 0, "again": 0}
        for _ in range(60):
            entries = some_story(chance, chance.choice([30, 60, 90]))
            held, model = Held(ROADS, entries), Model(ROADS, entries)
            told = fallen(held)
            self.assertEqual(told, model.fallen())
            for number, lease, giver, unpaid, loss, answers, rest in told:
                whole = held.leases()[lease]
                seen["unpaid"] += unpaid > 0
                seen["loss"] += loss > 0
                seen["some"] += len(answers) > 1
                seen["answers"] += sum(pence for name, pence in answers) > 0
                seen["rest"] += rest > 0
                seen["under"] += giver != "TRUST"
                seen["again"] += any(row[2:4] == whole[2:4] and row[0] > lease and row[5] <= whole[6]
                                     for row in held.leases())
        self.assertGreater(min(seen.values()), 10, seen)


if __name__ == "__main__":
    unittest.main()
