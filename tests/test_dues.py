import random
import unittest

from lettolls.days import quarter_span
from lettolls.dues import borne, due_of, dues_at
from lettolls.errors import NoGate, NoLease
from lettolls.holding import Held
from logs import ROADS, held_by, some_story
from models import Model

# ten days, from 10 to 19, of which the parts are 2 3 2 3 2 3 2 3 2 3
TEN = "1 10 anew ann quay 19 25\n"
# all of year 1, 364 days, a penny each, and of its days 400 to 409 three pence each
YEAR = "1 0 bid 1 ann quay quay 364\n2 300 let 1\n3 350 under ann bob quay 400 409 30\n"


class DueOf(unittest.TestCase):
    def test_the_whole_lease(self):
        held = held_by(TEN)
        for first, last in ((10, 19), (0, 3639), (10, 3639), (0, 19), (9, 20)):
            self.assertEqual(due_of(held, 0, first, last), 25)

    def test_single_days(self):
        held = held_by(TEN)
        self.assertEqual([due_of(held, 0, day, day) for day in range(8, 22)], [0, 0, 2, 3, 2, 3, 2, 3, 2, 3, 2, 3, 0, 0])

    def test_parts_that_come_to_the_whole(self):
        for pence in (0, 1, 9, 10, 25, 999, 10 ** 6):
            held = held_by(f"1 10 anew ann quay 19 {pence}")
            for cut in range(5, 25):
                self.assertEqual(due_of(held, 0, 5, cut) + due_of(held, 0, cut + 1, 25), pence)

    def test_days_outside(self):
        held = held_by(TEN)
        for first, last in ((0, 9), (20, 20), (20, 3639), (0, 0), (3639, 3639)):
            self.assertEqual(due_of(held, 0, first, last), 0)

    def test_first_above_last(self):
        held = held_by(TEN)
        for first, last in ((19, 10), (11, 10), (15, 14), (3639, 0), (20, 9)):
            self.assertEqual(due_of(held, 0, first, last), 0)

    def test_no_lease(self):
        held = held_by(TEN)
        for lease in (-1, 1, 2, 10 ** 30, -10 ** 30):
            for first, last in ((0, 3639), (10, 10), (19, 10), (1, 0)):
                with self.assertRaises(NoLease) as caught:
                    due_of(held, lease, first, last)
                self.assertEqual(caught.exception.lease, lease)
        with self.assertRaises(NoLease):
            due_of(Held(ROADS, []), 0, 1, 0)

    def test_shut_days(self):
        for shut, due in (("10 10", 23), ("11 11", 22), ("19 19", 22), ("10 19", 0), ("12 15", 15), ("18 500", 20),
                          ("20 500", 25)):
            self.assertEqual(due_of(held_by(TEN + f"2 5 shut quay {shut}"), 0, 0, 3639), due)
        held = held_by(TEN + "2 5 shut quay 11 12\n3 6 shut quay 12 13\n4 7 shut quay 19 30")
        self.assertEqual(due_of(held, 0, 0, 3639), 25 - 3 - 2 - 3 - 3)
        self.assertEqual(due_of(held, 0, 11, 13), 0)
        self.assertEqual(due_of(held, 0, 13, 14), 2)

    def test_another_gates_shut_days(self):
        self.assertEqual(due_of(held_by(TEN + "2 5 shut east 5 500"), 0, 0, 3639), 25)

    def test_days_taken_out_by_a_fail(self):
        for day, due in ((10, 0), (11, 2), (15, 12), (19, 22), (20, 25)):
            self.assertEqual(due_of(held_by(TEN + f"2 {day} fail ann"), 0, 0, 3639), due)

    def test_a_fail_ahead_of_the_lease(self):
        held = held_by(YEAR + "4 360 fail bob")
        self.assertEqual((due_of(held, 0, 0, 3639), due_of(held, 1, 0, 3639)), (364, 0))
        held = held_by(YEAR + "4 405 fail ann")
        self.assertEqual((due_of(held, 0, 0, 3639), due_of(held, 1, 0, 3639)), (41, 15))

    def test_days_let_on_are_due_all_the_same(self):
        held = held_by(YEAR)
        self.assertEqual((due_of(held, 0, 400, 409), due_of(held, 1, 400, 409)), (10, 30))

    def test_arguments_by_their_names(self):
        self.assertEqual(due_of(last=11, first=10, lease=0, held=held_by(TEN)), 5)


class DuesAt(unittest.TestCase):
    def test_none(self):
        for quarter in range(40):
            self.assertEqual(dues_at(Held(ROADS, []), quarter), [])

    def test_of_all_forty_quarters(self):
        held = held_by(YEAR)
        for quarter in range(40):
            expected = [("TRUST", "ann", "quay", 0, 91)] if 4 <= quarter <= 7 else []
            self.assertEqual(dues_at(held, quarter), expected + [("ann", "bob", "quay", 1, 30)] * (quarter == 4))

    def test_the_first_and_the_last_quarter(self):
        held = held_by("1 0 anew ann quay 90 91\n2 3549 anew bob quay 3639 9\n3 91 anew ann quay 91 5")
        self.assertEqual(dues_at(held, 0), [("TRUST", "ann", "quay", 0, 91)])
        self.assertEqual(dues_at(held, 1), [("TRUST", "ann", "quay", 1, 5)])
        self.assertEqual(dues_at(held, 39), [("TRUST", "bob", "quay", 2, 9)])
        self.assertEqual(dues_at(held, 38), [])

    def test_a_lease_over_the_quarters_edge(self):
        held = held_by("1 89 anew ann quay 92 7")
        self.assertEqual((dues_at(held, 0), dues_at(held, 1)),
                         ([("TRUST", "ann", "quay", 0, 3)], [("TRUST", "ann", "quay", 0, 4)]))

    def test_rising(self):
        held = held_by("1 0 anew zoe west 50 50\n2 0 anew ann mid 50 50\n3 0 anew ann east 50 50\n"
                       "4 0 under zoe ann west 0 9 9\n5 0 under ann bob mid 0 9 9\n6 51 anew ann east 60 9\n"
                       "7 0 under ann bob east 5 9 9")
        self.assertEqual(dues_at(held, 0), [
            ("TRUST", "ann", "east", 2, 50), ("TRUST", "ann", "east", 6, 9), ("TRUST", "ann", "mid", 1, 50),
            ("TRUST", "zoe", "west", 0, 50), ("ann", "bob", "east", 5, 9), ("ann", "bob", "mid", 4, 9),
            ("zoe", "ann", "west", 3, 9)])

    def test_nothing_of_0(self):
        self.assertEqual(dues_at(held_by("1 0 anew ann quay 90 0"), 0), [])
        self.assertEqual(dues_at(held_by("1 0 anew ann quay 90 91\n2 0 shut quay 0 90"), 0), [])
        # one penny of a lease over two quarters falls on its last day
        held = held_by("1 0 anew ann quay 100 1")
        self.assertEqual((dues_at(held, 0), dues_at(held, 1)), ([], [("TRUST", "ann", "quay", 0, 1)]))

    def test_shut_days(self):
        held = held_by("1 0 anew ann quay 181 182\n2 0 shut quay 80 100")
        self.assertEqual([due[4] for quarter in (0, 1) for due in dues_at(held, quarter)], [80, 81])

    def test_a_taker_who_fails(self):
        # quarter 4 has the days 364 to 454
        for day, quarters in ((364, []), (453, []), (454, []), (455, [4]), (545, [4]), (546, [4, 5]), (728, [4, 5, 6, 7]),
                              (363, [])):
            held = held_by(f"1 0 bid 1 ann quay quay 364\n2 300 let 1\n3 {day} fail ann")
            self.assertEqual([quarter for quarter in range(40) if dues_at(held, quarter)], quarters)

    def test_a_taker_who_fails_behind_the_lease_in_its_quarter(self):
        for day, many in ((89, 0), (90, 0), (91, 1)):
            self.assertEqual(len(dues_at(held_by(f"1 0 anew ann quay 9 5\n2 {day} fail ann"), 0)), many)

    def test_a_giver_who_fails(self):
        held = held_by(YEAR + "4 405 fail ann")
        self.assertEqual(dues_at(held, 4), [("ann", "bob", "quay", 1, 15)])

    def test_a_void_fail_is_of_one_who_has_failed_already(self):
        held = held_by(YEAR + "4 500 fail ann\n5 600 fail ann")
        self.assertEqual([len(dues_at(held, quarter)) for quarter in range(3, 9)], [0, 2, 0, 0, 0, 0])

    def test_own_lists(self):
        held = held_by(YEAR)
        told = dues_at(held, 4)
        told.clear()
        self.assertEqual(len(dues_at(held, 4)), 2)
        self.assertIsNot(dues_at(held, 4), dues_at(held, 4))

    def test_arguments_by_their_names(self):
        self.assertEqual(dues_at(quarter=0, held=held_by(TEN)), [("TRUST", "ann", "quay", 0, 25)])


class Borne(unittest.TestCase):
    def test_an_open_day(self):
        held = held_by(TEN + "2 5 shut quay 12 13")
        for day in (0, 11, 14, 3639):
            self.assertEqual(borne(held, "quay", day), [])
        self.assertEqual(borne(held, "east", 12), [])

    def test_a_shut_day_without_a_lease(self):
        held = held_by(TEN + "2 0 shut quay 0 3639")
        for day in (0, 9, 20, 3639):
            self.assertEqual(borne(held, "quay", day), [("TRUST", 0)])

    def test_a_shut_day_with_a_lease(self):
        held = held_by(TEN + "2 0 shut quay 10 19")
        self.assertEqual(borne(held, "quay", 10), [("TRUST", 2), ("ann", -2)])
        self.assertEqual(borne(held, "quay", 11), [("TRUST", 3), ("ann", -3)])
        self.assertEqual(borne(held, "quay", 19), [("TRUST", 3), ("ann", -3)])
        self.assertEqual(borne(held, "quay", 20), [])

    def test_a_chain_of_three(self):
        # on day 12 ann's part is 2, bob's, from 11 to 13, 33 and cat's, of day 12 alone, 7
        held = held_by(TEN + "2 10 under ann bob quay 11 13 100\n3 10 under bob cat quay 12 12 7\n4 10 shut quay 11 12")
        self.assertEqual(borne(held, "quay", 12), [("TRUST", 2), ("ann", 31), ("bob", -26), ("cat", -7)])
        self.assertEqual(borne(held, "quay", 11), [("TRUST", 3), ("ann", 30), ("bob", -33)])
        self.assertEqual(borne(held, "quay", 13), [])

    def test_a_name_twice_in_the_chain(self):
        held = held_by(TEN + "2 10 under ann bob quay 12 12 9\n3 10 under bob ann quay 12 12 5\n4 10 shut quay 12 12")
        self.assertEqual(borne(held, "quay", 12), [("TRUST", 2), ("ann", 7), ("bob", -4), ("ann", -5)])

    def test_days_taken_out_by_a_fail(self):
        held = held_by(TEN + "2 10 under ann bob quay 12 15 40\n3 14 fail bob\n4 10 shut quay 10 19")
        self.assertEqual(borne(held, "quay", 13), [("TRUST", 3), ("ann", 7), ("bob", -10)])
        self.assertEqual(borne(held, "quay", 14), [("TRUST", 2), ("ann", -2)])

    def test_no_gate(self):
        held = held_by(TEN + "2 0 shut quay 0 3639")
        for gate in ("north", "", "york", "QUAY"):
            for day in (0, 12):
                with self.assertRaises(NoGate) as caught:
                    borne(held, gate, day)
                self.assertEqual(caught.exception.gate, gate)

    def test_own_lists(self):
        held = held_by(TEN + "2 0 shut quay 10 10")
        for day in (10, 11):
            kept = list(borne(held, "quay", day))
            borne(held, "quay", day).append("x")
            self.assertEqual(borne(held, "quay", day), kept)
            self.assertIsNot(borne(held, "quay", day), borne(held, "quay", day))

    def test_arguments_by_their_names(self):
        self.assertEqual(borne(day=5, gate="quay", held=held_by("1 0 shut quay 5 5")), [("TRUST", 0)])


class AnyLogs(unittest.TestCase):
    def test_as_reckoned_day_by_day(self):
        chance = random.Random(101)
        many = 0
        for _ in range(15):
            entries = some_story(chance, 60)
            held, model = Held(ROADS, entries), Model(ROADS, entries)
            for lease in range(len(model.leases)):
                first, last = sorted(chance.sample(range(300, 800), 2))
                self.assertEqual(due_of(held, lease, first, last), model.due_of(lease, first, last))
            for quarter in (3, 4, 5, 6, 7, chance.randrange(40)):
                self.assertEqual(dues_at(held, quarter), model.dues_at(quarter))
            for gate in ROADS.gates():
                for day in range(300, 800, 7):
                    told = borne(held, gate, day)
                    self.assertEqual(told, model.borne(gate, day))
                    self.assertEqual(sum(pence for name, pence in told), 0)
                    many += len(told) > 2
        self.assertGreater(many, 10)

    def test_all_quarters_are_the_whole(self):
        chance = random.Random(102)
        for _ in range(20):
            held = Held(ROADS, some_story(chance, 60))
            for lease in range(len(held.leases())):
                parts = [due_of(held, lease, *quarter_span(quarter)) for quarter in range(40)]
                self.assertEqual(sum(parts), due_of(held, lease, 0, 3639))

    def test_nothing_changes(self):
        held = Held(ROADS, some_story(random.Random(103), 60))
        kept = held.leases(), held.voids(), held.log()
        first = [dues_at(held, quarter) for quarter in range(40)]
        self.assertEqual([dues_at(held, quarter) for quarter in range(40)], first)
        self.assertEqual((held.leases(), held.voids(), held.log()), kept)


if __name__ == "__main__":
    unittest.main()
