import random
import unittest

from lettolls.holding import Held
from lettolls.roads import Roads
from lettolls.takings import balances, books_part, passes, table_on, takings
from logs import ROADS, held_by, some_traffic, some_whole_log, told_by
from models import Model
from nets import some_roads

# from a to d either by b or by c
SQUARE = Roads([("a", "b", ("k", "l")), ("b", "d", ("m",)), ("c", "a", ("n",)), ("c", "d", ("o", "p")), ("d", "e", ())])
# the same without c
LINE = Roads(SQUARE.rows()[:2])
# by units: k 1, l 2, m 3, n 4, o 5, p 6, so 6 units by b and 15 by c
TOLLS = "\n".join(f"{at + 1} 0 table {gate} * 0 - 0 {at + 1} 1" for at, gate in enumerate("klmnop")) + "\n"


class Passes(unittest.TestCase):
    def check(self, text, *expected, roads=SQUARE):
        """The passes, as texts: number, gate, pence."""
        held = held_by(text, roads)
        told = [f"{number} {gate} {pence}" for number, day, gate, pence, holder, ticket in passes(held)]
        self.assertEqual(told, list(expected), text)
        return held

    def test_none(self):
        self.check("")
        self.check(TOLLS)

    def test_a_load(self):
        held = self.check(TOLLS + "20 9 load cow 2 a d", "20 k 2", "20 l 4", "20 m 6")
        self.assertEqual(passes(held), [(20, 9, "k", 2, "TRUST", "00140"), (20, 9, "l", 4, "TRUST", "00141"),
                                        (20, 9, "m", 6, "TRUST", "00142")])

    def test_the_other_way_about(self):
        held = self.check(TOLLS + "20 9 load cow 2 d a", "20 m 6", "20 l 4", "20 k 2")
        self.assertEqual([row[5] for row in passes(held)], ["00140", "00141", "00142"])
        self.check(TOLLS + "20 9 load cow 2 c b", "20 n 8", "20 k 2", "20 l 4")
        self.check(TOLLS + "20 9 load cow 2 b c", "20 l 4", "20 k 2", "20 n 8")
        self.check(TOLLS + "20 9 load cow 1 d c\n10 0 shut m 9 9", "20 p 6", "20 o 5")
        self.check(TOLLS + "20 9 load cow 1 c d\n10 0 shut m 9 9", "20 o 5", "20 p 6")

    def test_from_a_place_to_itself(self):
        for place in SQUARE.places():
            self.check(TOLLS + f"20 9 load cow 2 {place} {place}")

    def test_a_road_without_gates(self):
        self.check(TOLLS + "20 9 load cow 2 d e")
        self.check(TOLLS + "20 9 load cow 1 a e", "20 k 1", "20 l 2", "20 m 3")
        self.check(TOLLS + "20 9 load cow 1 e b", "20 m 3")

    def test_loads_in_order(self):
        self.check(TOLLS + "22 9 load cow 1 b d\n21 9 load pig 2 d b\n20 10 load cow 3 b d\n23 8 load cow 4 b d",
                   "23 m 12", "21 m 6", "22 m 3", "20 m 9")

    def test_void_loads(self):
        self.check(TOLLS + "20 9 load cow 1 b d\n21 9 shut m 9 9\n22 9 shut n 9 9\n23 10 load cow 1 b d", "23 m 3")

    def test_the_gates_shut_that_day(self):
        by_c = ("20 n 4", "20 o 5", "20 p 6")
        for shut in ("k 9 9", "l 8 9", "m 9 10", "m 8 10"):
            self.check(TOLLS + f"20 9 load cow 1 a d\n19 8 shut {shut}", *by_c)
        # one of a greater number on the same day counts too
        self.check(TOLLS + "20 9 load cow 1 a d\n21 9 shut l 9 9", *by_c)
        for shut in ("k 8 8", "k 10 99", "n 9 9", "p 0 3639"):
            self.check(TOLLS + f"20 9 load cow 1 a d\n19 {min(int(shut.split()[1]), 5)} shut {shut}", "20 k 1", "20 l 2", "20 m 3")

    def test_two_ways_of_the_same_toll(self):
        # none pays anything: the fewest roads, of these the least list
        self.check("20 9 load cow 1 a d", "20 k 0", "20 l 0", "20 m 0")
        self.check("20 9 load cow 1 d a", "20 m 0", "20 l 0", "20 k 0")
        roads = Roads([("a", "b", ("k",)), ("b", "c", ("l",)), ("a", "c", ("m",)), ("c", "a", ("n",))])
        self.check("20 9 load cow 1 a c", "20 m 0", roads=roads)
        self.check("20 9 load cow 1 c a\n21 9 shut m 9 9", "20 n 0", roads=roads)
        self.check("20 9 load cow 1 a c\n1 0 table m * 0 - 1 0 1\n2 0 table n * 0 - 1 0 1", "20 k 0", "20 l 0", roads=roads)
        self.check("20 9 load cow 1 a c\n1 0 table m * 0 - 1 0 1\n2 0 table n * 0 - 1 0 1\n3 0 table k * 0 - 1 0 1",
                   "20 m 1", roads=roads)

    def test_the_way_by_this_kinds_tolls(self):
        text = TOLLS + "10 1 table m cow 0 - 99 0 1 ; * 0 - 1 0 1\n"
        self.check(text + "20 9 load cow 1 a d", "20 n 4", "20 o 5", "20 p 6")
        self.check(text + "20 9 load pig 1 a d", "20 k 1", "20 l 2", "20 m 1")

    def test_the_table_of_the_day(self):
        two = "5 10 table m * 0 - 7 0 1\n6 20 table m * 0 - 8 0 1\n"
        for day, pence in ((0, 0), (9, 0), (10, 7), (11, 7), (19, 7), (20, 8), (21, 8), (3639, 8)):
            # whatever the load's number is
            for number in (1, 9):
                self.check(two + f"{number} {day} load cow 1 b d", f"{number} m {pence}", roads=LINE)

    def test_two_tables_of_one_day(self):
        self.check("5 10 table m * 0 - 7 0 1\n6 10 table m * 0 - 8 0 1\n9 10 load cow 1 b d", "9 m 8", roads=LINE)
        self.check("6 10 table m * 0 - 7 0 1\n5 10 table m * 0 - 8 0 1\n9 10 load cow 1 b d", "9 m 7", roads=LINE)
        self.check("5 10 table m * 0 - 7 0 1\n6 10 table m -\n9 10 load cow 1 b d", "9 m 0", roads=LINE)
        self.check("6 9 table m * 0 - 7 0 1\n5 10 table m * 0 - 8 0 1\n4 10 load cow 1 b d", "4 m 8", roads=LINE)

    def test_another_gates_table(self):
        self.check("5 10 table l * 0 - 7 0 1\n9 10 load cow 1 b d\n10 10 load cow 1 a b", "9 m 0", "10 k 0", "10 l 7", roads=LINE)

    def test_free_kinds(self):
        for first, last, days in ((9, 9, {9}), (8, 10, {8, 9, 10}), (9, 3639, {9, 10}), (0, 7, set()), (11, 12, set())):
            rows = "".join(f"{20 + day} {day} load cow 1 b d\n" for day in (8, 9, 10))
            self.check(TOLLS + rows + f"99 0 free cow {first} {last}",
                       *[f"{20 + day} m {0 if day in days else 3}" for day in (8, 9, 10)])

    def test_a_free_entry_of_any_place_in_the_log(self):
        self.check(TOLLS + "20 9 load cow 1 b d\n99 9 free cow 9 9", "20 m 0")
        self.check(TOLLS + "20 9 load cow 1 b d\n19 8 free cow 9 9", "20 m 0")

    def test_another_kind_is_free(self):
        self.check(TOLLS + "20 9 load cow 1 b d\n99 0 free pig 0 3639\n21 9 load pig 1 b d", "20 m 3", "21 m 0")

    def test_a_free_load_goes_by_the_fewest_roads(self):
        roads = Roads([("a", "b", ("k",)), ("b", "c", ("l",)), ("a", "c", ("m",))])
        text = "1 0 table m * 0 - 9 0 1\n20 9 load cow 1 a c\n"
        self.check(text, "20 k 0", "20 l 0", roads=roads)
        self.check(text + "99 0 free cow 9 9", "20 m 0", roads=roads)

    def test_the_holder_of_the_day_by_all_entries(self):
        held = held_by("1 0 bid 1 ann m m 900\n2 300 let 1\n30 400 load cow 1 b d\n31 363 load cow 1 b d\n"
                       "32 500 load cow 1 d b\n33 500 fail ann\n34 400 under ann bob m 400 400 5", SQUARE)
        self.assertEqual([(row[1], row[4]) for row in passes(held)], [(363, "TRUST"), (400, "bob"), (500, "TRUST")])

    def test_tickets(self):
        many = Roads([("a", "b", tuple("klmno")), ("c", "b", tuple("pqrst"))])
        held = held_by("9999 9 load cow 1 a c\n1 9 load cow 1 c a", many)
        told = passes(held)
        self.assertEqual([row[5] for row in told], [f"0001{at}" for at in range(10)] + [f"270F{at}" for at in range(10)])
        self.assertEqual("".join(row[2] for row in told), "pqrstonmlk" + "klmnotsrqp")

    def test_great_tolls(self):
        held = held_by("1 0 table m * 0 - 1000000 1000000 1\n2 1 load cow 1000000000 b d", LINE)
        self.assertEqual(passes(held)[0][3], 10 ** 15 + 10 ** 6)


class Takings(unittest.TestCase):
    def test_none(self):
        self.assertEqual(takings(Held(ROADS, [])), [])
        self.assertEqual(takings(held_by("20 9 load cow 2 a d", SQUARE)), [])

    def test_together(self):
        held = held_by(TOLLS + "20 9 load cow 2 a d\n21 9 load pig 1 d b\n22 8 load pig 1 d b\n23 9 load pig 1 b d", SQUARE)
        self.assertEqual(takings(held), [(8, "m", "TRUST", 3), (9, "k", "TRUST", 2), (9, "l", "TRUST", 4),
                                         (9, "m", "TRUST", 12)])

    def test_nothing_of_0(self):
        held = held_by("1 0 table m * 0 - 3 0 1\n20 9 load cow 2 a d\n21 10 load cow 2 b d\n22 0 free cow 10 10", LINE)
        self.assertEqual(takings(held), [(9, "m", "TRUST", 3)])

    def test_holders(self):
        held = held_by(TOLLS + "10 5 anew ann m 9 5\n11 5 under ann bob m 9 9 1\n20 8 load cow 1 b d\n21 9 load cow 1 b d\n"
                               "22 10 load cow 1 b d\n23 9 load cow 1 a b", SQUARE)
        self.assertEqual(takings(held), [(8, "m", "ann", 3), (9, "k", "TRUST", 1), (9, "l", "TRUST", 2), (9, "m", "bob", 3),
                                         (10, "m", "TRUST", 3)])

    def test_own_lists(self):
        held = held_by(TOLLS + "20 9 load cow 2 a d", SQUARE)
        for ask in (passes, takings):
            kept = ask(held)
            ask(held).clear()
            self.assertEqual(ask(held), kept)
            self.assertIsNot(ask(held), ask(held))


class BooksPart(unittest.TestCase):
    def check(self, text, expected):
        told = books_part(held_by(TOLLS + text, SQUARE))
        self.assertEqual(told, expected)
        self.assertIsInstance(told, tuple if expected else type(None))

    def test_of_nothing(self):
        self.assertIsNone(books_part(Held(ROADS, [])))
        self.check("", None)
        self.check("20 9 taken m 0", None)

    def test_alike(self):
        self.check("20 9 load cow 2 b d\n21 9 taken m 6", None)
        self.check("20 9 load cow 2 b d\n21 9 taken m 6\n22 9 taken m 0", None)
        self.check("20 9 load cow 0 b d", None)

    def test_a_penny_too_much_or_too_little(self):
        self.check("20 9 load cow 2 b d\n21 9 taken m 7", (9, "m", 6, 7))
        self.check("20 9 load cow 2 b d\n21 9 taken m 5", (9, "m", 6, 5))

    def test_nothing_told(self):
        self.check("20 9 load cow 2 b d", (9, "m", 6, 0))
        self.check("20 9 load cow 2 b d\n21 8 taken m 6", (8, "m", 0, 6))
        self.check("20 9 load cow 2 b d\n21 10 taken m 6", (9, "m", 6, 0))

    def test_told_where_nothing_is_paid(self):
        self.check("21 9 taken m 6", (9, "m", 0, 6))
        self.check("20 9 load cow 2 b d\n21 9 taken m 6\n22 9 taken k 1", (9, "k", 0, 1))
        self.check("20 9 load cow 2 b d\n21 9 taken m 6\n22 9 free cow 9 9", (9, "m", 0, 6))

    def test_several_taken_entries(self):
        self.check("20 9 load cow 2 b d\n21 9 taken m 4\n22 9 taken m 2", None)
        self.check("20 9 load cow 2 b d\n21 9 taken m 4\n22 9 taken m 3", (9, "m", 6, 7))
        self.check("20 9 load cow 2 b d\n23 9 load cow 1 b d\n21 9 taken m 4\n22 9 taken m 5", None)

    def test_the_least_day_and_gate(self):
        self.check("20 9 load cow 1 a d\n21 8 load cow 1 a d\n22 8 taken k 1\n23 8 taken l 2", (8, "m", 3, 0))
        self.check("20 9 load cow 1 a d\n21 8 load cow 1 a d\n22 8 taken k 1", (8, "l", 2, 0))
        self.check("20 100 load cow 1 b d\n21 20 load cow 1 b d", (20, "m", 3, 0))
        self.check("20 9 load cow 1 b d\n21 9 taken l 1", (9, "l", 0, 1))

    def test_entries_out_of_order(self):
        self.check("21 9 taken m 6\n20 9 load cow 2 b d", None)
        self.check("19 9 taken m 6\n20 9 load cow 2 b d", None)


class Balances(unittest.TestCase):
    def check(self, text, *expected, roads=ROADS):
        held = held_by(text, roads)
        self.assertEqual(balances(held), list(expected))
        self.assertEqual(sum(pence for name, pence in expected), sum(row[3] for row in takings(held)))

    def test_of_nothing(self):
        self.check("")
        self.check("20 9 load cow 2 york hull")

    def test_takings(self):
        self.check(TOLLS + "20 9 load cow 2 b d", ("TRUST", 6), roads=SQUARE)
        self.check(TOLLS + "20 9 load cow 2 b d\n21 9 anew ann m 9 0", ("ann", 6), roads=SQUARE)

    def test_dues(self):
        self.check("1 10 anew ann quay 19 25", ("TRUST", 25), ("ann", -25))
        self.check("1 10 anew ann quay 19 25\n2 10 under ann bob quay 10 10 7", ("TRUST", 25), ("ann", -18), ("bob", -7))
        self.check("1 10 anew ann quay 19 25\n2 10 shut quay 10 11", ("TRUST", 20), ("ann", -20))

    def test_dues_of_all_quarters(self):
        rows = "\n".join(f"{quarter + 1} {91 * quarter} anew ann quay {91 * quarter + 90} 5" for quarter in range(40))
        self.check(rows, ("TRUST", 200), ("ann", -200))

    def test_nothing_of_0(self):
        self.check("1 10 anew ann quay 19 25\n2 10 under ann bob quay 10 10 25", ("TRUST", 25), ("bob", -25))
        self.check("1 10 anew ann quay 19 25\n2 0 table quay * 0 - 25 0 1\n3 15 load cow 1 hull goole", ("TRUST", 25))

    def test_answers(self):
        # 12 unpaid and 13 lost of ann's lease, answered by bob and cat, 16 and 9, to TRUST
        self.check("1 10 anew ann quay 19 25 bob 2 cat 1\n2 15 fail ann", ("TRUST", 25), ("bob", -16), ("cat", -9))
        # what isn't answered nobody has
        self.check("1 10 anew ann quay 19 25\n2 15 fail ann")

    def test_takings_dues_and_answers(self):
        self.check("1 10 anew ann quay 19 25 bob 2 cat 1\n2 15 fail ann\n3 15 anew bob quay 19 5\n4 0 table quay * 0 - 0 1 1\n"
                   "5 14 load cow 30 hull goole\n6 15 load cow 40 goole hull\n7 14 load cow 5 hull york",
                   # 12 unpaid and 8 lost are answered by bob with 13 and cat with 7, bob owes 5 more
                   ("TRUST", 25), ("ann", 30), ("bob", 22), ("cat", -7))

    def test_own_lists(self):
        held = held_by("1 10 anew ann quay 19 25")
        balances(held).clear()
        self.assertEqual(balances(held), [("TRUST", 25), ("ann", -25)])


class TableOn(unittest.TestCase):
    def test_days(self):
        log = held_by("5 10 table quay * 0 - 7 0 1\n6 20 table quay -\n4 20 table quay * 0 - 8 0 1").log()
        for day, table in ((9, ()), (10, (("", 0, None, 7, 0, 1),)), (19, (("", 0, None, 7, 0, 1),)), (20, ())):
            self.assertEqual(table_on(log, "quay", day), table)
        self.assertEqual(table_on(log, "east", 20), ())


class AnyLogs(unittest.TestCase):
    def check(self, roads, entries):
        held, model = Held(roads, entries), Model(roads, entries)
        told = passes(held)
        self.assertEqual(told, model.passes())
        self.assertEqual(takings(held), model.takings())
        self.assertEqual(books_part(held), model.books_part())
        return held, model

    def test_all_ways(self):
        chance = random.Random(121)
        seen = 0
        for _ in range(60):
            roads = some_roads(chance)
            if roads.gates():
                entries = some_traffic(chance, chance.sample(range(1, 10000), 40), roads)
                held, model = self.check(roads, entries)
                seen += len(takings(held))
        self.assertGreater(seen, 100)

    def test_whole_logs(self):
        chance = random.Random(122)
        holders = set()
        for _ in range(15):
            held, model = self.check(ROADS, some_whole_log(chance, 50))
            told = balances(held)
            self.assertEqual(told, model.balances())
            self.assertEqual(sum(pence for name, pence in told), sum(row[3] for row in takings(held)))
            holders |= {row[2] for row in takings(held)}
        self.assertGreater(len(holders), 4)

    def test_books_of_all_that_is_paid_agree(self):
        chance = random.Random(123)
        entries = [entry for entry in some_whole_log(chance, 40) if entry[2] != "taken"]
        numbers = [number for number in range(1, 10000) if number not in {entry[0] for entry in entries}]
        told = [(number, row[1], "taken", row[2], row[3]) for number, row in zip(numbers, passes(Held(ROADS, entries)))]
        self.assertTrue(takings(Held(ROADS, entries)))
        self.assertIsNotNone(books_part(Held(ROADS, entries)))
        self.assertIsNone(books_part(Held(ROADS, entries + told)))

    def test_the_argument_by_its_name(self):
        held = Held(ROADS, told_by("1 10 anew ann quay 19 25\n2 11 taken quay 5"))
        self.assertEqual((passes(held=held), takings(held=held)), ([], []))
        self.assertEqual(books_part(held=held), (11, "quay", 0, 5))
        self.assertEqual(balances(held=held), [("TRUST", 25), ("ann", -25)])


if __name__ == "__main__":
    unittest.main()
