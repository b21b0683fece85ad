import itertools
import random
import unittest

from lettolls.days import Days
from lettolls.entries import in_order
from lettolls.errors import NoGate, NoLease
from lettolls.holding import Held
from lettolls.roads import Roads
from logs import ENTRIES, ROADS, held_by, some_log, some_story, told_by
from models import Model

# ann has all three gates of the first road in year 1, for 300 pence each; leases 0, 1 and 2
LET = """1 0 bid 1 ann east west 900 bob 2
         2 300 let 1
      """


class NoEntries(unittest.TestCase):
    def test_all_is_the_trusts(self):
        held = Held(ROADS, [])
        self.assertEqual((held.voids(), held.leases(), held.log()), ([], [], []))
        for gate in ROADS.gates():
            self.assertEqual(held.stretches(gate), [(0, 3639, "TRUST")])
            for day in (0, 1, 364, 3639):
                self.assertEqual((held.chain(gate, day), held.holder(gate, day)), ([], "TRUST"))

    def test_no_roads(self):
        held = Held(Roads([]), told_by("1 0 let 1\n2 1 fail ann\n3 2 fail ann", Roads([])))
        self.assertEqual((held.voids(), held.leases(), held.roads()), ([(3, "failed")], [], Roads([])))


class Voids(unittest.TestCase):
    def check(self, text, *expected, roads=ROADS):
        """The numbers of void entries and their words, in whatever order the rows stand."""
        entries = told_by(text, roads)
        for order in (entries, entries[::-1], sorted(entries, key=str)):
            self.assertEqual(Held(roads, order).voids(), list(expected), text)

    def test_none(self):
        self.check("")
        self.check("\n".join([LET, "3 364 under ann cat mid 364 727 5", "4 364 anew dan quay 727 5", "5 400 fail cat"]))

    def test_words_that_are_never_void(self):
        rows = []
        for day in (0, 364, 3639):
            rows += [f"{day + 1} {day} shut quay {day} 3639", f"{day + 2} {day} table quay -",
                     f"{day + 3} {day} free cow {day} {day}", f"{day + 4} {day} taken quay 5"]
        self.check("\n".join(rows))
        self.check("\n".join(rows + ["9000 0 fail cow", "9001 0 fail quay"]))

    def test_a_bid_by_its_day(self):
        for year in range(1, 10):
            first = 364 * year
            self.check(f"1 {first - 1} bid {year} ann east east 5")
            self.check(f"1 {first} bid {year} ann east east 5", (1, "late"))
            self.check(f"1 {min(first + 400, 3639)} bid {year} ann east east 5", (1, "late"))
        self.check("1 0 bid 1 ann east east 5\n2 0 bid 9 ann east east 5")

    def test_year_0(self):
        self.check("1 0 bid 0 ann east east 5", (1, "late"))
        self.check("1 0 let 0\n2 363 let 0", (1, "late"), (2, "late"))

    def test_a_bid_behind_a_let(self):
        self.check("1 10 let 1\n2 10 bid 1 ann east east 5", (2, "late"))
        self.check("2 10 let 1\n1 10 bid 1 ann east east 5")
        self.check("1 10 let 1\n2 9 bid 1 ann east east 5\n3 11 bid 1 ann east east 5", (3, "late"))
        self.check("1 10 let 1\n2 11 bid 1 ann quay quay 5", (2, "late"))

    def test_a_bid_behind_a_let_of_another_year(self):
        self.check("1 10 let 1\n2 11 bid 2 ann east east 5")
        self.check("1 10 let 2\n2 11 bid 1 ann east east 5")

    def test_a_bid_and_a_let_that_was_void(self):
        self.check("1 364 let 1\n2 363 bid 1 ann east east 5\n3 364 bid 1 ann east east 5\n4 364 bid 2 ann east east 5",
                   (1, "late"), (3, "late"))
        self.check("1 0 let 0\n2 1 bid 1 ann east east 5", (1, "late"))
        self.check("1 5 let 1\n2 6 let 1\n3 6 bid 1 ann east east 5", (2, "again"), (3, "late"))

    def test_a_bidder_who_failed(self):
        self.check("1 9 fail ann\n2 10 bid 1 ann east east 5", (2, "failed"))
        self.check("1 10 fail ann\n2 10 bid 1 ann east east 5", (2, "failed"))
        self.check("3 10 fail ann\n2 10 bid 1 ann east east 5")
        self.check("1 11 fail ann\n2 10 bid 1 ann east east 5")
        self.check("1 9 fail bob\n2 10 bid 1 ann east east 5")

    def test_a_bids_surety_who_failed(self):
        for sureties in ("bob 1", "bob 1 cat 2", "cat 2 bob 1", "cat 1 dan 1 eve 1 bob 9"):
            self.check(f"1 9 fail bob\n2 10 bid 1 ann east east 5 {sureties}", (2, "failed"))
            self.check(f"1 10 fail bob\n2 10 bid 1 ann east east 5 {sureties}", (2, "failed"))
            self.check(f"3 10 fail bob\n2 10 bid 1 ann east east 5 {sureties}")

    def test_a_bid_is_late_ahead_of_failed(self):
        self.check("1 9 fail ann\n2 364 bid 1 ann east east 5", (2, "late"))
        self.check("1 9 fail ann\n2 10 let 1\n3 11 bid 1 ann east east 5", (3, "late"))
        self.check("1 9 fail bob\n2 364 bid 1 ann east east 5 bob 1", (2, "late"))

    def test_a_let_by_its_day(self):
        for year in range(1, 10):
            self.check(f"1 {364 * year - 1} let {year}")
            self.check(f"1 {364 * year} let {year}", (1, "late"))
        self.check("\n".join(f"{year} 0 let {year}" for year in range(1, 10)))

    def test_a_let_twice(self):
        self.check("1 10 let 1\n2 10 let 1", (2, "again"))
        self.check("2 10 let 1\n1 11 let 1", (1, "again"))
        self.check("1 10 let 1\n2 11 let 1\n3 12 let 1\n4 12 let 2", (2, "again"), (3, "again"))

    def test_a_let_is_late_ahead_of_again(self):
        self.check("1 10 let 1\n2 364 let 1", (2, "late"))
        self.check("1 364 let 1\n2 365 let 1", (1, "late"), (2, "late"))

    def test_an_unders_taker_who_failed(self):
        self.check(LET + "3 369 fail cat\n4 370 under ann cat mid 370 380 5", (4, "failed"))
        self.check(LET + "3 370 fail cat\n4 370 under ann cat mid 370 380 5", (4, "failed"))
        self.check(LET + "5 370 fail cat\n4 370 under ann cat mid 370 380 5")
        self.check(LET + "3 371 fail cat\n4 370 under ann cat mid 370 380 5")
        self.check(LET + "3 369 fail dan\n4 370 under ann cat mid 370 380 5")

    def test_an_under_is_failed_ahead_of_none(self):
        self.check("3 369 fail cat\n4 370 under ann cat mid 370 380 5", (4, "failed"))

    def test_an_under_by_one_who_holds_nothing(self):
        self.check("4 370 under ann cat mid 370 380 5", (4, "none"))
        self.check(LET + "4 370 under ann cat quay 370 380 5\n5 370 under bob cat mid 370 380 5", (4, "none"), (5, "none"))

    def test_an_under_ahead_of_the_let(self):
        self.check(LET + "3 299 under ann cat mid 370 380 5\n4 300 under ann cat west 370 380 5", (3, "none"))

    def test_an_under_for_days_beyond_the_lease(self):
        self.check(LET + "3 350 under ann cat mid 363 400 5", (3, "none"))
        self.check(LET + "3 350 under ann cat mid 364 727 5")
        self.check(LET + "3 350 under ann cat mid 700 728 5", (3, "none"))
        self.check(LET + "3 350 under ann cat mid 363 363 5\n4 350 under ann cat mid 728 728 5", (3, "none"), (4, "none"))

    def test_an_under_by_the_holder_of_all_days_but_one(self):
        one = LET + "3 350 under ann cat mid 500 500 5\n"
        for first, last in ((364, 500), (499, 501), (500, 501), (500, 500), (499, 500), (500, 727)):
            self.check(one + f"4 350 under ann dan mid {first} {last} 5", (4, "none"))
        for first, last in ((364, 499), (501, 727), (499, 499), (501, 501)):
            self.check(one + f"4 350 under ann dan mid {first} {last} 5")
        self.check(one + "4 350 under ann dan west 364 727 5")

    def test_an_under_by_the_one_let_on_to(self):
        one = LET + "3 350 under ann cat mid 400 500 5\n"
        self.check(one + "4 350 under cat dan mid 400 500 5")
        for first, last in ((399, 500), (400, 501), (399, 399), (501, 501)):
            self.check(one + f"4 350 under cat dan mid {first} {last} 5", (4, "none"))
        self.check(one + "4 350 under cat dan mid 400 500 5\n5 350 under ann eve mid 400 400 5\n"
                         "6 350 under cat eve mid 450 450 5", (5, "none"), (6, "none"))

    def test_an_under_over_two_leases_of_one_holder(self):
        two = LET + "3 0 bid 2 ann mid mid 7\n4 300 let 2\n"
        self.check(two + "5 350 under ann cat mid 700 800 5")
        self.check(two + "5 350 under ann cat west 700 800 5", (5, "none"))
        self.check(two + "5 350 under ann cat mid 364 1091 5\n6 350 under cat ann mid 700 800 5")

    def test_an_under_by_one_who_failed(self):
        self.check(LET + "3 400 fail ann\n4 400 under ann cat mid 400 500 5", (4, "none"))
        self.check(LET + "5 400 fail ann\n4 400 under ann cat mid 400 500 5")

    def test_an_anews_taker_or_surety_who_failed(self):
        for row in ("4 10 anew ann quay 20 5", "4 10 anew bob quay 20 5 ann 1", "4 10 anew bob quay 20 5 cat 1 ann 1"):
            self.check(f"3 9 fail ann\n{row}", (4, "failed"))
            self.check(f"3 10 fail ann\n{row}", (4, "failed"))
            self.check(f"5 10 fail ann\n{row}")
            self.check(f"3 11 fail ann\n{row}")
            self.check(f"3 9 fail dan\n{row}")

    def test_an_anew_is_failed_ahead_of_none(self):
        self.check(LET + "3 400 fail cat\n4 400 anew cat mid 500 5\n5 400 anew dan mid 500 5 cat 1",
                   (4, "failed"), (5, "failed"))

    def test_an_anew_where_someone_holds(self):
        self.check(LET + "3 400 anew cat mid 400 5", (3, "none"))
        self.check(LET + "3 363 anew cat mid 363 5\n4 728 anew cat mid 728 5")
        self.check("1 0 anew ann quay 0 5\n2 0 anew bob quay 0 5", (2, "none"))
        self.check("1 5 anew ann quay 5 5\n2 5 anew bob quay 6 5\n3 6 anew bob quay 6 5", (2, "none"))

    def test_an_anew_where_someone_holds_on_one_of_the_days(self):
        # ann fails on day 400, and what is left of mid is let anew on day 450 to 459
        one = LET + "3 400 fail ann\n4 450 anew cat mid 459 5\n"
        self.check(one + "5 459 anew dan mid 500 5", (5, "none"))
        self.check(one + "5 460 anew dan mid 500 5")
        self.check(one + "5 450 anew dan mid 450 5", (5, "none"))
        self.check(one + "5 440 anew dan mid 449 5")
        # this one is made ahead, so that cat's comes too late
        self.check(one + "5 440 anew dan mid 450 5", (4, "none"))
        self.check(one + "5 449 anew dan mid 727 5", (4, "none"))

    def test_an_anew_behind_a_fail_in_the_chain(self):
        chain = "1 10 anew ann quay 40 5\n2 10 under ann cat quay 21 40 5\n"
        self.check(chain + "3 20 fail ann\n4 21 anew dan quay 40 5")
        self.check(chain + "3 20 fail cat\n4 21 anew dan quay 40 5", (4, "none"))
        self.check(chain + "3 22 fail ann\n4 21 anew dan quay 40 5", (4, "none"))

    def test_a_fail_twice(self):
        self.check("1 10 fail ann\n2 10 fail ann\n3 9 fail ann\n4 3639 fail ann\n5 10 fail bob",
                   (1, "failed"), (2, "failed"), (4, "failed"))

    def test_a_load_without_a_way(self):
        self.check("1 10 load cow 5 york hull\n2 10 shut mid 10 10", (1, "none"))
        self.check("2 10 load cow 5 hull york\n1 10 shut mid 10 10", (2, "none"))
        self.check("1 10 load cow 5 selby goole\n2 5 shut quay 6 10", (1, "none"))
        self.check("1 10 load cow 5 york hull\n2 10 shut quay 10 10")
        self.check("1 10 load cow 5 selby york\n2 10 shut mid 10 10")

    def test_a_load_ahead_of_and_behind_the_shut_days(self):
        self.check("1 9 load cow 5 york hull\n2 10 load cow 5 york hull\n3 12 load cow 5 york hull\n"
                   "4 13 load cow 5 york hull\n5 5 shut west 10 12", (2, "none"), (3, "none"))

    def test_a_load_from_a_place_to_itself(self):
        self.check("1 10 load cow 5 hull hull\n2 10 shut mid 10 10\n3 10 shut quay 10 10")

    def test_a_load_where_there_is_another_way(self):
        roads = Roads([("a", "b", ("k",)), ("a", "b", ("l",)), ("c", "d", ("m",))])
        self.check("1 10 load cow 5 a b\n2 10 shut k 10 10", roads=roads)
        self.check("1 10 load cow 5 a b\n2 10 shut l 10 10", roads=roads)
        self.check("1 10 load cow 5 a b\n2 10 shut l 10 10\n3 10 shut k 10 10", (1, "none"), roads=roads)
        self.check("1 10 load cow 5 a c\n2 11 load cow 5 d c", (1, "none"), roads=roads)

    def test_in_the_order_of_the_log(self):
        self.check("9 10 let 0\n8 11 let 0\n1 12 let 0\n7 10 let 0", (7, "late"), (9, "late"), (8, "late"), (1, "late"))

    def test_what_is_void_does_nothing(self):
        held = held_by("1 364 bid 1 ann east west 900\n2 364 let 1\n3 370 under ann cat mid 370 380 5\n4 1 fail dan\n"
                       "5 370 anew dan mid 380 5\n6 371 fail dan")
        self.assertEqual((held.leases(), len(held.voids())), ([], 5))
        # of two fails of one name, the later takes out no lease by which another one has it in between
        held = held_by("1 5 fail ann\n2 6 anew bob quay 300 5\n3 10 fail ann")
        self.assertEqual(held.holder("quay", 10), "bob")


class Lets(unittest.TestCase):
    def check(self, text, *expected, roads=ROADS):
        """The leases that lets bring, as texts: number, gate, taker, first, last, pence."""
        held = held_by(text, roads)
        for at, lease in enumerate(held.leases()):
            self.assertIsInstance(lease, tuple)
            self.assertEqual((lease[0], lease[3]), (at, "TRUST"))
        told = [" ".join(map(str, lease[1:3] + lease[4:])) for lease in held.leases()]
        self.assertEqual(told, list(expected), text)
        return held

    def test_no_bids(self):
        self.check("1 10 let 1")
        self.check("1 10 let 1\n2 9 bid 2 ann east east 5")

    def test_one_bid(self):
        held = self.check("7 9 bid 1 ann mid mid 5\n1 10 let 1", "7 mid ann 364 727 5")
        self.assertEqual(held.leases(), [(0, 7, "mid", "TRUST", "ann", 364, 727, 5)])
        self.assertEqual(held.stretches("mid"), [(0, 363, "TRUST"), (364, 727, "ann"), (728, 3639, "TRUST")])
        self.assertEqual(held.stretches("east"), [(0, 3639, "TRUST")])

    def test_of_each_year(self):
        for year in range(1, 10):
            self.check(f"7 9 bid {year} ann mid mid 5\n1 10 let {year}",
                       f"7 mid ann {364 * year} {364 * year + 363} 5")

    def test_the_last_years_last_day(self):
        held = self.check("7 9 bid 9 ann mid mid 5\n1 10 let 9", "7 mid ann 3276 3639 5")
        self.assertEqual(held.stretches("mid"), [(0, 3275, "TRUST"), (3276, 3639, "ann")])

    def test_pence_are_split_by_like_weights(self):
        for pence, parts in ((900, (300, 300, 300)), (1, (0, 0, 1)), (2, (0, 1, 1)), (1000, (333, 333, 334)),
                             (10 ** 6, (333333, 333333, 333334)), (902, (300, 301, 301))):
            self.check(f"7 9 bid 1 ann east west {pence}\n1 10 let 1", f"7 east ann 364 727 {parts[0]}",
                       f"7 mid ann 364 727 {parts[1]}", f"7 west ann 364 727 {parts[2]}")

    def test_gates_in_the_roads_order(self):
        roads = Roads([("a", "b", ("z", "a", "m"))])
        self.check("7 9 bid 1 ann z m 7\n1 10 let 1", "7 z ann 364 727 2", "7 a ann 364 727 2", "7 m ann 364 727 3",
                   roads=roads)
        self.check("7 9 bid 1 ann a m 7\n1 10 let 1", "7 a ann 364 727 3", "7 m ann 364 727 4", roads=roads)

    def test_bids_that_are_the_same(self):
        self.check("7 9 bid 1 ann mid mid 5\n6 9 bid 1 bob mid mid 5\n1 10 let 1", "6 mid bob 364 727 5")
        self.check("7 8 bid 1 ann mid mid 5\n6 9 bid 1 bob mid mid 5\n1 10 let 1", "7 mid ann 364 727 5")
        self.check("7 8 bid 1 ann mid mid 5\n6 9 bid 1 bob mid mid 6\n1 10 let 1", "6 mid bob 364 727 6")

    def test_bids_that_touch(self):
        self.check("7 9 bid 1 ann east mid 6\n8 9 bid 1 bob west west 5\n1 10 let 1",
                   "7 east ann 364 727 3", "7 mid ann 364 727 3", "8 west bob 364 727 5")

    def test_bids_that_overlap(self):
        two = "7 9 bid 1 ann east mid 6\n8 9 bid 1 bob mid west 7\n1 10 let 1\n"
        self.check(two, "8 mid bob 364 727 3", "8 west bob 364 727 4")
        self.check(two + "9 9 bid 1 cat west west 1", "7 east ann 364 727 3", "7 mid ann 364 727 3", "9 west cat 364 727 1")
        self.check(two + "9 9 bid 1 cat east east 1", "8 mid bob 364 727 3", "8 west bob 364 727 4", "9 east cat 364 727 1")

    def test_leases_in_the_order_of_the_bids(self):
        self.check("9 9 bid 1 ann east east 6\n8 9 bid 1 bob west west 5\n7 9 bid 1 cat mid mid 1\n6 10 let 1",
                   "7 mid cat 364 727 1", "8 west bob 364 727 5", "9 east ann 364 727 6")
        self.check("9 8 bid 1 ann west west 6\n8 9 bid 1 bob east mid 5\n6 10 let 1",
                   "9 west ann 364 727 6", "8 east bob 364 727 2", "8 mid bob 364 727 3")

    def test_road_by_road(self):
        self.check("7 8 bid 1 ann quay quay 6\n8 9 bid 1 bob east east 5\n9 9 bid 1 bob quay quay 7\n6 10 let 1",
                   "8 east bob 364 727 5", "9 quay bob 364 727 7")
        # a road without gates stands between these
        roads = Roads([("a", "b", ("z",)), ("a", "b", ()), ("b", "c", ("a", "m"))])
        self.check("7 8 bid 1 ann m m 6\n8 9 bid 1 bob z z 5\n9 9 bid 1 cat a m 4\n6 10 let 1",
                   "8 z bob 364 727 5", "7 m ann 364 727 6", roads=roads)

    def test_bids_of_other_years_and_void_ones(self):
        self.check("1 1 fail ann\n7 9 bid 1 ann mid mid 99\n8 9 bid 2 bob mid mid 98\n9 9 bid 1 cat mid mid 1\n"
                   "10 9 bid 1 dan mid mid 97 ann 1\n11 10 let 1", "9 mid cat 364 727 1")

    def test_bids_behind_the_let(self):
        self.check("7 9 bid 1 ann mid mid 5\n1 10 let 1\n8 10 bid 1 bob mid mid 99\n9 11 bid 1 bob west west 99\n"
                   "10 12 let 1", "7 mid ann 364 727 5")

    def test_a_bidder_who_failed_since(self):
        two = "7 9 bid 1 ann mid mid 99\n8 9 bid 1 bob mid mid 5\n3 10 let 1\n"
        self.check(two + "1 9 fail ann", "8 mid bob 364 727 5")
        self.check(two + "1 10 fail ann", "8 mid bob 364 727 5")
        self.check(two + "4 10 fail ann", "7 mid ann 364 727 99")
        self.check(two + "9 9 fail ann\n10 9 fail bob")

    def test_a_surety_who_failed_since(self):
        self.check("7 9 bid 1 ann mid mid 99 cat 1\n8 9 bid 1 bob mid mid 5\n9 9 fail cat\n10 10 let 1",
                   "7 mid ann 364 727 99")

    def test_lets_of_several_years(self):
        self.check("7 9 bid 1 ann mid mid 9\n8 9 bid 2 bob mid mid 5\n9 10 let 2\n10 11 let 1",
                   "8 mid bob 728 1091 5", "7 mid ann 364 727 9")

    def test_several_bids_of_one_bidder(self):
        self.check("7 9 bid 1 ann mid mid 9\n8 9 bid 1 ann east east 5\n9 9 bid 1 ann east mid 13\n10 10 let 1",
                   "7 mid ann 364 727 9", "8 east ann 364 727 5")


class Unders(unittest.TestCase):
    def check(self, held, gate, *expected):
        """The stretches of a gate, as texts, and its chains there, as texts of takers."""
        told = [f"{first}-{last} " + " ".join(held.leases()[lease][4] for lease in held.chain(gate, first))
                for first, last, holder in held.stretches(gate)]
        self.assertEqual([text.strip() for text in told], list(expected))

    def test_an_under(self):
        held = held_by(LET + "7 350 under ann cat mid 400 500 5")
        self.assertEqual(held.leases()[3], (3, 7, "mid", "ann", "cat", 400, 500, 5))
        self.check(held, "mid", "0-363", "364-399 ann", "400-500 ann cat", "501-727 ann", "728-3639")
        self.assertEqual((held.chain("mid", 450), held.chain("mid", 399), held.chain("west", 450)), ([1, 3], [1], [2]))
        self.assertEqual(str(held.days_of(1)), "364-727")
        self.assertEqual(str(held.days_of(3)), "400-500")

    def test_one_whole_lease(self):
        held = held_by(LET + "7 350 under ann cat mid 364 727 0")
        self.check(held, "mid", "0-363", "364-727 ann cat", "728-3639")

    def test_days_at_both_ends(self):
        held = held_by(LET + "7 350 under ann cat mid 364 364 5\n8 350 under ann dan mid 727 727 5")
        self.check(held, "mid", "0-363", "364-364 ann cat", "365-726 ann", "727-727 ann dan", "728-3639")

    def test_let_on_twice_in_one_chain(self):
        held = held_by(LET + "7 350 under ann cat mid 400 500 5\n8 350 under cat dan mid 450 460 5")
        self.check(held, "mid", "0-363", "364-399 ann", "400-449 ann cat", "450-460 ann cat dan", "461-500 ann cat",
                   "501-727 ann", "728-3639")

    def test_round_and_back_to_the_same_name(self):
        held = held_by(LET + "7 350 under ann cat mid 400 500 5\n8 350 under cat ann mid 450 460 5\n"
                             "9 350 under ann cat mid 455 455 5")
        self.check(held, "mid", "0-363", "364-399 ann", "400-449 ann cat", "450-454 ann cat ann",
                   "455-455 ann cat ann cat", "456-460 ann cat ann", "461-500 ann cat", "501-727 ann", "728-3639")
        self.assertEqual((held.chain("mid", 455), held.holder("mid", 455), held.holder("mid", 456)),
                         ([1, 3, 4, 5], "cat", "ann"))

    def test_back_at_once_for_all_days(self):
        held = held_by(LET + "7 350 under ann cat mid 364 727 5\n8 350 under cat ann mid 364 727 5")
        self.check(held, "mid", "0-363", "364-727 ann cat ann", "728-3639")

    def test_two_leases_of_one_holder_are_one_stretch(self):
        held = held_by(LET + "3 0 bid 2 ann mid mid 7\n4 300 let 2\n5 350 under ann cat mid 700 800 5")
        self.check(held, "mid", "0-363", "364-699 ann", "700-800 ann cat", "801-1091 ann", "1092-3639")
        self.assertEqual((held.chain("mid", 727), held.chain("mid", 728)), ([1, 4], [3, 4]))
        self.assertEqual(str(held.days_of(4)), "700-800")

    def test_an_anew(self):
        held = held_by("7 0 anew ann quay 0 5\n8 1 anew ann quay 363 5 bob 1\n9 3639 anew bob quay 3639 0")
        self.assertEqual(held.leases(), [(0, 7, "quay", "TRUST", "ann", 0, 0, 5), (1, 8, "quay", "TRUST", "ann", 1, 363, 5),
                                         (2, 9, "quay", "TRUST", "bob", 3639, 3639, 0)])
        self.assertEqual(held.stretches("quay"), [(0, 363, "ann"), (364, 3638, "TRUST"), (3639, 3639, "bob")])

    def test_an_anew_let_on(self):
        held = held_by("7 5 anew ann quay 20 5\n8 5 under ann bob quay 10 20 5")
        self.check(held, "quay", "0-4", "5-9 ann", "10-20 ann bob", "21-3639")


class Fails(unittest.TestCase):
    def test_of_the_only_taker(self):
        held = held_by(LET + "7 400 fail ann")
        for gate in ("east", "mid", "west"):
            self.assertEqual(held.stretches(gate), [(0, 363, "TRUST"), (364, 399, "ann"), (400, 3639, "TRUST")])
        self.assertEqual([str(held.days_of(lease)) for lease in range(3)], ["364-399"] * 3)
        self.assertEqual([lease[6] for lease in held.leases()], [727] * 3)

    def test_ahead_of_and_on_a_leases_first_and_last_days(self):
        for day, left in ((363, "-"), (364, "-"), (365, "364"), (727, "364-726"), (728, "364-727"), (3639, "364-727")):
            self.assertEqual(str(held_by(LET + f"7 {day} fail ann").days_of(1)), left)

    def test_in_the_middle_of_a_chain(self):
        # a chain of four, of which the third one fails
        held = held_by(LET + "3 350 under ann bob mid 400 500 5\n4 350 under bob cat mid 410 490 5\n"
                             "5 350 under cat dan mid 420 480 5\n6 450 fail cat")
        self.assertEqual([str(held.days_of(lease)) for lease in (1, 3, 4, 5)], ["364-727", "400-500", "410-449", "420-449"])
        self.assertEqual(held.stretches("mid"), [(0, 363, "TRUST"), (364, 399, "ann"), (400, 409, "bob"), (410, 419, "cat"),
                                                 (420, 449, "dan"), (450, 500, "bob"), (501, 727, "ann"),
                                                 (728, 3639, "TRUST")])

    def test_of_the_first_and_the_last_of_a_chain(self):
        chain = LET + "3 350 under ann bob mid 400 500 5\n4 350 under bob cat mid 410 490 5\n"
        held = held_by(chain + "6 450 fail ann")
        self.assertEqual([str(held.days_of(lease)) for lease in (1, 3, 4)], ["364-449", "400-449", "410-449"])
        held = held_by(chain + "6 450 fail cat")
        self.assertEqual([str(held.days_of(lease)) for lease in (1, 3, 4)], ["364-727", "400-500", "410-449"])

    def test_a_name_that_took_twice_in_one_chain(self):
        chain = LET + "3 350 under ann bob mid 400 500 5\n4 350 under bob ann mid 410 490 5\n"
        held = held_by(chain + "6 450 fail ann")
        self.assertEqual([str(held.days_of(lease)) for lease in (1, 3, 4)], ["364-449", "400-449", "410-449"])
        chain = LET + "3 350 under ann bob mid 400 500 5\n4 350 under bob cat mid 410 490 5\n5 350 under cat bob mid 420 480 5\n"
        held = held_by(chain + "6 450 fail bob")
        self.assertEqual([str(held.days_of(lease)) for lease in (1, 3, 4, 5)], ["364-727", "400-449", "410-449", "420-449"])

    def test_a_name_that_took_several_gates_and_years(self):
        held = held_by(LET + "3 0 bid 2 ann mid mid 7\n4 300 let 2\n5 364 anew ann quay 500 5\n6 450 fail ann")
        self.assertEqual([str(held.days_of(lease)) for lease in range(5)], ["364-449"] * 3 + ["-", "364-449"])
        self.assertEqual(held.chain("mid", 800), [])

    def test_a_lease_in_two_parts(self):
        # cat's lease is behind ann's in two years, of which ann's second one falls with dan ahead of it
        held = held_by("1 0 bid 1 ann mid mid 9\n2 0 bid 2 dan mid mid 9\n3 300 let 1\n4 300 let 2\n"
                       "5 300 under dan ann mid 800 900 5\n6 301 under dan ann mid 728 799 5\n"
                       "7 302 under dan ann mid 901 1091 5\n8 310 under ann cat mid 700 1000 5\n9 850 fail dan")
        self.assertEqual(str(held.days_of(5)), "700-849")
        self.assertEqual(held.chain("mid", 727), [0, 5])
        self.assertEqual(held.chain("mid", 849), [1, 2, 5])
        self.assertEqual(held.chain("mid", 850), [])

    def test_what_is_taken_out_in_the_middle_of_a_lease(self):
        # of two who gave to eve by one name, the one who fails had the days in between
        held = held_by("1 0 bid 1 ann mid mid 9\n2 300 let 1\n3 300 under ann bob mid 400 500 5\n"
                       "4 300 under bob ann mid 400 500 5\n5 310 under ann eve mid 390 600 5\n6 350 fail bob")
        self.assertEqual(str(held.days_of(3)), "390-399 501-600")
        self.assertEqual(held.stretches("mid"), [(0, 363, "TRUST"), (364, 389, "ann"), (390, 399, "eve"), (400, 500, "ann"),
                                                 (501, 600, "eve"), (601, 727, "ann"), (728, 3639, "TRUST")])

    def test_let_anew_behind(self):
        held = held_by(LET + "3 400 fail ann\n4 400 anew bob mid 500 5\n5 450 under bob cat mid 460 500 5\n"
                             "6 450 anew dan west 727 5")
        self.assertEqual(held.voids(), [])
        self.assertEqual(held.stretches("mid"), [(0, 363, "TRUST"), (364, 399, "ann"), (400, 459, "bob"), (460, 500, "cat"),
                                                 (501, 3639, "TRUST")])
        self.assertEqual(held.stretches("west"), [(0, 363, "TRUST"), (364, 399, "ann"), (400, 449, "TRUST"),
                                                  (450, 727, "dan"), (728, 3639, "TRUST")])

    def test_let_on_anew_behind(self):
        held = held_by(LET + "3 350 under ann bob mid 400 500 5\n4 410 fail bob\n5 410 under ann cat mid 411 500 5\n"
                             "6 410 under ann dan mid 410 500 5")
        self.assertEqual(held.voids(), [(6, "none")])
        self.assertEqual(held.chain("mid", 411), [1, 4])
        self.assertEqual(held.holder("mid", 410), "ann")

    def test_ahead_of_its_day_nothing_changes(self):
        with_fail = held_by(LET + "3 350 under ann bob mid 400 500 5\n4 450 fail ann")
        without = held_by(LET + "3 350 under ann bob mid 400 500 5")
        for gate in ROADS.gates():
            for day in range(450):
                self.assertEqual(with_fail.chain(gate, day), without.chain(gate, day))


class Refusals(unittest.TestCase):
    def test_no_lease(self):
        for held, first_too_great in ((Held(ROADS, []), 0), (held_by(LET), 3)):
            for lease in (-1, -2, -3, -4, first_too_great, first_too_great + 1, 10 ** 30, -10 ** 30):
                with self.assertRaises(NoLease) as caught:
                    held.days_of(lease)
                self.assertEqual(caught.exception.lease, lease)
            for lease in range(first_too_great):
                self.assertIsInstance(held.days_of(lease), Days)

    def test_no_gate(self):
        held = held_by(LET)
        for gate in ("north", "", "york", "EAST", "TRUST", "eas"):
            for ask in (lambda: held.chain(gate, 400), lambda: held.holder(gate, 0), lambda: held.stretches(gate)):
                with self.assertRaises(NoGate) as caught:
                    ask()
                self.assertEqual(caught.exception.gate, gate)


class BeyondTheBounds(unittest.TestCase):
    def test_nothing_is_refused(self):
        held = held_by(LET)
        for day in (-1, 3640, 10 ** 30):
            self.assertIsInstance(held.chain("mid", day), list)
            self.assertIsInstance(held.holder("mid", day), str)
        held = Held(ROADS, [(1, 0, "bid", 10, "ann", "east", "west", 10 ** 9, ()), (2, 3640, "fail", "bob"), (3, 0, "let", 10),
                            (4, 3630, "anew", "cat", "quay", 3700, 5, ()), (5, 3639, "under", "cat", "dan", "quay", 3639, 3650, 5)])
        self.assertEqual(held.holder("quay", 3639), "dan")


class LogAndRoads(unittest.TestCase):
    def test_the_log_in_order(self):
        chance = random.Random(91)
        for many in (0, 1, 2, 30, 100):
            entries = some_log(chance, many)
            self.assertEqual(Held(ROADS, entries).log(), in_order(entries))

    def test_other_roads_of_the_same_rows(self):
        held = Held(ROADS, [])
        self.assertEqual(held.roads(), ROADS)
        self.assertEqual(held.roads().rows(), ROADS.rows())
        self.assertIsNot(held.roads(), ROADS)
        self.assertIsNot(held.roads(), held.roads())


class TheAskersOwn(unittest.TestCase):
    def answers(self, held):
        return (held.voids(), held.leases(), held.log(), held.roads().rows(), *[held.stretches(g) for g in ROADS.gates()],
                *[held.chain(gate, day) for gate in ROADS.gates() for day in (0, 400, 728)],
                *[held.days_of(lease).spans() for lease in range(len(held.leases()))])

    def test_told_lists_are_changed(self):
        held = held_by(LET + "3 350 under ann cat mid 400 500 5\n4 0 let 0")
        kept = self.answers(held)
        for told in self.answers(held):
            told.clear()
            told.append("x")
        self.assertEqual(self.answers(held), kept)

    def test_no_two_told_lists_are_the_same(self):
        held = held_by(LET)
        told = self.answers(held) + self.answers(held)
        self.assertEqual(len({id(one) for one in told}), len(told))

    def test_the_list_handed_in(self):
        entries = told_by(LET + "9 350 under ann cat mid 400 500 5\n4 0 let 0")
        kept = list(entries)
        held = Held(ROADS, entries)
        self.assertEqual(entries, kept)
        before = self.answers(held)
        entries.reverse()
        self.assertEqual(self.answers(held), before)
        entries.clear()
        self.assertEqual(self.answers(held), before)

    def test_the_roads_handed_in_stay(self):
        rows = ROADS.rows()
        held_by(LET).roads().rows().clear()
        self.assertEqual(ROADS.rows(), rows)

    def test_arguments_by_their_names(self):
        held = Held(entries=told_by(LET), roads=ROADS)
        self.assertEqual(held.days_of(lease=0), Days([(364, 727)]))
        self.assertEqual(held.chain(day=400, gate="mid"), [1])
        self.assertEqual(held.holder(day=400, gate="mid"), "ann")
        self.assertEqual(held.stretches(gate="quay"), [(0, 3639, "TRUST")])


class AnyLogs(unittest.TestCase):
    def check_against_each_other(self, held):
        leases = held.leases()
        for gate in ROADS.gates():
            days_of = {lease[0]: held.days_of(lease[0]) for lease in leases if lease[2] == gate}
            stretches = held.stretches(gate)
            self.assertEqual((stretches[0][0], stretches[-1][1]), (0, 3639))
            self.assertEqual(stretches, sorted(stretches))
            for one, other in itertools.pairwise(stretches):
                self.assertEqual(one[1] + 1, other[0])
                self.assertNotEqual(one[2], other[2])
            for first, last, holder in stretches:
                self.assertLessEqual(first, last)
                for day in {first, last, (first + last) // 2, min(last, first + 1), max(first, last - 1)}:
                    chain = held.chain(gate, day)
                    self.assertEqual(chain, [lease for lease in days_of if days_of[lease].has(day)])
                    self.assertEqual(held.holder(gate, day), holder)
                    givers = ["TRUST", *[leases[lease][4] for lease in chain]]
                    self.assertEqual(givers[-1], holder)
                    self.assertEqual([leases[lease][3] for lease in chain], givers[:-1])

    def test_day_by_day(self):
        held = Held(ROADS, some_story(random.Random(92), 70))
        for gate in ROADS.gates():
            told = [holder for first, last, holder in held.stretches(gate) for day in range(first, last + 1)]
            self.assertEqual(told, [held.holder(gate, day) for day in range(3640)])
            self.assertGreater(len(set(told)), 2)

    def test_against_each_other(self):
        chance = random.Random(93)
        for _ in range(60):
            self.check_against_each_other(Held(ROADS, some_story(chance, chance.choice([10, 40, 70]))))

    def test_as_reckoned_day_by_day(self):
        chance = random.Random(94)
        words, depth = set(), 0
        for _ in range(40):
            entries = some_story(chance, chance.choice([20, 50, 80]))
            held, model = Held(ROADS, entries), Model(ROADS, entries)
            self.assertEqual(held.voids(), model.voids)
            self.assertEqual(held.leases(), model.leases)
            for lease in range(len(model.leases)):
                self.assertEqual(held.days_of(lease), Days([(day, day) for day in model.days_of(lease)]))
            for gate in ROADS.gates():
                self.assertEqual([held.chain(gate, day) for day in range(0, 3640, 13)], model.chains[gate][::13])
            words |= {word for number, word in model.voids}
            depth = max(depth, *[len(chain) for gate in ROADS.gates() for chain in model.chains[gate]])
        self.assertEqual(words, {"late", "failed", "again", "none"})
        self.assertGreaterEqual(depth, 4)

    def test_entries_of_all_words(self):
        chance = random.Random(95)
        for _ in range(20):
            entries = some_log(chance, 100)
            held, model = Held(ROADS, entries), Model(ROADS, entries)
            self.assertEqual((held.voids(), held.leases()), (model.voids, model.leases))
        held = Held(ROADS, list(ENTRIES.values()))
        self.assertEqual(held.voids(), [])

    def test_in_whatever_order_of_the_list(self):
        chance = random.Random(96)
        entries = some_story(chance, 60)
        held = Held(ROADS, entries)
        for _ in range(10):
            chance.shuffle(entries)
            other = Held(ROADS, entries)
            self.assertEqual((other.voids(), other.leases(), other.log()), (held.voids(), held.leases(), held.log()))
            for gate in ROADS.gates():
                self.assertEqual(other.stretches(gate), held.stretches(gate))

    def test_a_hundred_unders_of_one_gate(self):
        rows = [f"{at + 10} 350 under ann bob mid {365 + 3 * at} {366 + 3 * at} 5" for at in range(98)]
        held = held_by(LET + "\n".join(rows))
        self.assertEqual(held.voids(), [])
        self.assertEqual(len(held.stretches("mid")), 2 * 98 + 3)
        # a chain of ninety-eight
        names = "abcdefghijklmnopqrstuvwxyz"
        takers = ["ann"] + [one + other for one in names for other in names][:98]
        rows = [f"{at + 10} 350 under {takers[at]} {takers[at + 1]} mid {400 + at} 700 5" for at in range(98)]
        held = held_by(LET + "\n".join(rows))
        self.assertEqual((held.voids(), len(held.chain("mid", 700)), held.holder("mid", 700)), ([], 99, takers[-1]))


if __name__ == "__main__":
    unittest.main()
