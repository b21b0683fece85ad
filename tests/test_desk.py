import random
import unittest

from lettolls.book import Book
from lettolls.desk import run
from lettolls.dues import dues_at
from lettolls.errors import BadRow
from lettolls.failing import fallen
from lettolls.rolls import entry_text
from lettolls.takings import balances, books_part, passes
from logs import ROADS, TEXTS, some_whole_log

ROAD_ROWS = str(ROADS)
# ann has the gates of the first road in year 1
LET = "1 0 bid 1 ann east west 900 bob 2\n2 300 let 1\n"
ASKS = ["holder quay 0", "chain quay 0", "voids", "dues 0", "fallen", "passes", "books", "balances", "way york goole",
        "part quay 0 east 0"]


class Answers(unittest.TestCase):
    def check(self, text, *expected, roads=ROAD_ROWS):
        told = run(f"{roads}\n{text}")
        self.assertIsInstance(told, list)
        self.assertEqual(told, list(expected), text)

    def test_of_nothing(self):
        for text in ("", "\n", "\n\n\n", ROAD_ROWS, ROAD_ROWS + "\n", "\n" + ROAD_ROWS + "\n\n"):
            self.assertEqual(run(text), [])
        self.assertEqual(run(ROAD_ROWS + "\n" + LET), [])

    def test_each_ask_of_an_empty_book(self):
        for ask, answer in zip(ASKS, ["TRUST", "-", "-", "-", "-", "-", "alike", "-", "0 1", "alike"]):
            self.check(ask, answer)

    def test_asks_without_roads(self):
        self.assertEqual(run("voids\ndues 39\nfallen\npasses\nbooks\nbalances\nundo\nstrike 1"),
                         ["-", "-", "-", "-", "alike", "-", "refused NoDeed", "refused NoEntry"])

    def test_holder(self):
        self.check(LET + "holder mid 363\nholder mid 364\nholder mid 727\nholder mid 728\nholder quay 400\nholder mid 3639",
                   "TRUST", "ann", "ann", "TRUST", "TRUST", "TRUST")

    def test_chain(self):
        self.check(LET + "3 350 under ann cat mid 400 500 5\n4 350 under cat dan mid 410 410 0\n"
                         "chain mid 399\nchain mid 400\nchain mid 410\nchain mid 0",
                   "TRUST ann 300", "TRUST ann 300; ann cat 5", "TRUST ann 300; ann cat 5; cat dan 0", "-")

    def test_voids(self):
        self.check("9 10 let 0\nvoids\n8 11 let 0\n1 0 fail ann\n2 0 fail ann\nvoids", "9 late", "2 failed; 9 late; 8 late")

    def test_dues(self):
        self.check("1 10 anew ann quay 19 25\n2 10 under ann bob quay 10 10 7\ndues 0\ndues 1\ndues 39",
                   "TRUST ann quay 25; ann bob quay 7", "-", "-")

    def test_fallen(self):
        self.check("1 10 anew ann quay 19 25 bob 1\n2 10 under ann cat quay 15 19 10\n3 15 fail cat\nfallen\n4 16 fail ann\nfallen",
                   "3 ann 0 10 10", "3 ann 0 10 10; 4 TRUST 15 10 0")

    def test_passes(self):
        self.check("1 0 table quay * 0 - 0 2 1\n2 5 anew ann quay 9 5\n3 5 load cow 4 york goole\n4 10 load cow 1 goole hull\npasses",
                   "00030 east 0 TRUST; 00031 mid 0 TRUST; 00032 west 0 TRUST; 00033 quay 8 ann; 00040 quay 2 TRUST")

    def test_books(self):
        self.check("1 0 table quay * 0 - 0 2 1\n2 5 load cow 4 goole hull\nbooks\n3 5 taken quay 7\nbooks\n4 5 taken quay 1\nbooks\n"
                   "5 4 taken mid 9\nbooks", "5 quay 8 0", "5 quay 8 7", "alike", "4 mid 0 9")

    def test_balances(self):
        self.check("1 10 anew ann quay 19 25\nbalances\n2 10 under ann bob quay 10 10 26\nbalances",
                   "TRUST 25; ann -25", "TRUST 25; ann 1; bob -26")

    def test_way(self):
        roads = "road a b k\nroad b c\nroad a c l m\nroad d e"
        self.check("way a b\nway a c\nway c b\nway b b\nway a d\nway e d", "0", "2", "1", "-", "none", "3", roads=roads)
        self.check("way a a\nway d d", "-", "-", roads=roads)

    def test_way_without_tolls_and_shut_gates(self):
        self.check("1 0 table l * 0 - 9 9 1\n2 0 shut l 0 3639\nway a c", "2", roads="road a b k\nroad b c\nroad a c l m")
        self.check("way a c\nway c a", "0 1", "1 0", roads="road a b k\nroad b c")

    def test_part(self):
        tables = "1 5 table east * 0 - 7 0 1\n2 9 table east cow 3 - 6 0 1 ; * 0 - 7 0 1\n3 9 table mid cow 0 - 7 0 1\n"
        self.check(tables + "part east 5 east 8\npart east 8 east 9\npart east 9 east 8\npart east 0 east 4\npart east 4 east 5\n"
                            "part mid 9 east 5\npart mid 9 mid 8\npart mid 0 quay 3639",
                   "alike", "3 cow", "3 cow", "alike", "0 *", "0 *", "0 cow", "alike")

    def test_strike(self):
        self.check(LET + "holder mid 400\nstrike 2\nholder mid 400\nstrike 2\nstrike 0\nstrike 9999\n" + TEXTS["let"]
                   + "\nholder mid 400", "ann", "done", "TRUST", "refused NoEntry", "refused NoEntry", "refused NoEntry", "ann")

    def test_undo(self):
        self.check(LET + "undo\nholder mid 400\nundo\nundo", "done", "TRUST", "done", "refused NoDeed")
        self.check(LET + "strike 1\nundo\nholder mid 400\nundo\nholder mid 400", "done", "done", "ann", "done", "TRUST")
        self.check("undo", "refused NoDeed")

    def test_twice(self):
        self.check(LET + "1 5 fail ann\nholder mid 400\n2 5 fail ann\n", "refused Twice", "ann", "refused Twice")
        self.check("1 5 fail ann\nstrike 1\n1 6 fail bob\nvoids", "done", "-")

    def test_full(self):
        rows = "\n".join(f"{number} 0 fail ann" for number in range(1, 101))
        self.check(rows + "\n101 0 fail ann\n100 0 fail ann\nstrike 1\n101 0 fail bob\n102 0 fail ann\nundo\n102 0 fail cat",
                   "refused Full", "refused Twice", "done", "refused Full", "done")

    def test_refused_ones_are_no_deeds(self):
        self.check("1 5 fail ann\n1 6 fail bob\nstrike 9\nundo\nundo", "refused Twice", "refused NoEntry", "done",
                   "refused NoDeed")

    def test_as_the_book_is_then(self):
        self.check("voids\n1 0 let 0\nvoids\n2 1 let 0\nvoids\nundo\nvoids\nstrike 1\nvoids\nundo\nvoids",
                   "-", "1 late", "1 late; 2 late", "done", "1 late", "done", "-", "done", "1 late")

    def test_a_late_entry(self):
        self.check(LET + "holder mid 400\n3 1 bid 1 zoe mid mid 901\nholder mid 400\nholder east 400", "ann", "zoe", "TRUST")

    def test_empty_rows(self):
        text = "\n\nroad york hull east\n\n\nroad hull goole\n\nvoids\n\n\n1 0 let 0\n\nvoids\n\n"
        self.assertEqual(run(text), ["-", "1 late"])

    def test_entries_of_all_words(self):
        self.check("\n".join(TEXTS.values()) + "\nvoids\nholder quay 450", "-", "dan")

    def test_own_lists(self):
        text = ROAD_ROWS + "\nvoids\nvoids"
        run(text).clear()
        self.assertEqual(run(text), ["-", "-"])
        self.assertIsNot(run(text), run(text))

    def test_the_argument_by_its_name(self):
        self.assertEqual(run(text="voids"), ["-"])

    def test_any_logs(self):
        chance = random.Random(141)
        for _ in range(10):
            entries = some_whole_log(chance, 30)
            book = Book(ROADS)
            for entry in entries:
                book.put(entry)
            held = book.held()
            rows = [entry_text(entry) for entry in entries]
            told = run("\n".join([ROAD_ROWS, *rows, "voids", "dues 4", "fallen", "passes", "books", "balances", "holder mid 400"]))

            def listed(things):
                return "; ".join(" ".join(map(str, thing)) for thing in things) or "-"
            part = books_part(held)
            self.assertEqual(told, [
                listed(held.voids()), listed((*due[:3], due[4]) for due in dues_at(held, 4)),
                listed((row[0], row[2], row[3], row[4], row[6]) for row in fallen(held)),
                listed((row[5], row[2], row[3], row[4]) for row in passes(held)),
                listed([part]) if part else "alike", listed(balances(held)), held.holder("mid", 400)])


class BadRows(unittest.TestCase):
    def check(self, row, text):
        with self.assertRaises(BadRow) as caught:
            run(text)
        self.assertEqual(caught.exception.row, row, text)

    def check_each(self, *rows):
        """That none of these rows may stand behind the roads, with other rows and empty ones around it."""
        for row in rows:
            with self.subTest(row=row):
                self.check(3, f"{ROAD_ROWS}\n{row}")
                self.check(7, f"{ROAD_ROWS}\nvoids\n\n1 0 fail ann\n1 0 fail ann\n{row}\nvoids\nnothing")

    def test_an_empty_word(self):
        for row in ASKS + ["undo", "strike 1", "1 0 fail ann", "1 0 anew ann quay 19 25 bob 1"]:
            self.check_each(f" {row}", f"{row} ", row.replace(" ", "  ", 1) if " " in row else f"{row}  ")
        self.check_each(" ", "  ")

    def test_another_word(self):
        self.check_each("hold quay 0", "Holder quay 0", "voids;", "void", "VOIDS", "-", "alike", "put", "put 1 0 fail ann", "done",
                        "roads", "takings", "entries", "tables quay 0", "books?", "1", "quay", "fail", "undone", "redo", "leases",
                        "stretches quay", "refused", "Book", "TRUST", "0", "()", "*")

    def test_a_word_too_many_or_too_few(self):
        for row in ASKS + ["undo", "strike 1"]:
            self.check_each(f"{row} 0", f"{row} quay", f"{row} york", f"{row} {row}")
            if " " in row:
                self.check_each(row.rpartition(" ")[0], row.partition(" ")[0])

    def test_numbers(self):
        for number in ("00", "01", "-1", "+1", "1.0", "1_0", "", "a", "x1", "1e1", "10000", "99999", "1" * 50):
            self.check_each(f"strike {number}")
        for number in ("00", "01", "007", "-1", "-0", "+1", "3640", "10000", "a", "quay", "", "*"):
            self.check_each(f"holder quay {number}", f"chain quay {number}", f"part quay {number} east 0",
                            f"part quay 0 east {number}")
        for number in ("00", "01", "039", "-1", "40", "41", "100", "a", ""):
            self.check_each(f"dues {number}")
        self.assertEqual(len(run(ROAD_ROWS + "\nstrike 0\nstrike 9999\nholder quay 0\nholder quay 3639\ndues 0\ndues 39\n"
                                             "part quay 3639 quay 0\nchain quay 3639")), 8)

    def test_gates_and_places(self):
        for word in ("north", "york", "QUAY", "TRUST", "qua", "0"):
            self.check_each(f"holder {word} 0", f"chain {word} 0", f"part {word} 0 quay 0", f"part quay 0 {word} 0")
        for word in ("leeds", "quay", "YORK", "TRUST", "yor", "0"):
            self.check_each(f"way {word} york", f"way york {word}", f"way {word} {word}")

    def test_what_is_no_entry(self):
        self.check_each("0 0 fail ann", "10000 0 fail ann", "1 3640 fail ann", "1 0 fail Ann", "1 0 fail", "1 0 fail ann bob",
                        "01 0 fail ann", "1 00 fail ann", "1 0 taken north 5", "1 0 shut quay 5 4", "1 5 shut quay 4 4",
                        "1 0 load cow 5 york leeds", "1 0 table quay", "1 0 table quay * 0 - 1 1 0", "1 0 bid 1 ann west east 5",
                        "1 0 bid 1 ann east west 0", "1 0 anew ann quay 364 5", "1 0 anew ann quay 5 5 ann 1", "1 0 let 10",
                        "1 0 free cow 5", "1 0 under ann ann quay 0 5 5", "-1 0 fail ann", "1 0 Fail ann", "1 0 strike 1")

    def test_a_road_behind_other_rows(self):
        for row in ("voids", "1 0 fail ann", "undo", "strike 1"):
            self.check(4, f"{ROAD_ROWS}\n{row}\nroad leeds york")
            self.check(1, f"{row}\nroad leeds york")
            self.check(3, f"{row}\n\n\nroad leeds york north\n")

    def test_what_roads_refuse(self):
        for row in ("road", "road york", "road york york", "road york hull east", "road york hull a a", "road York hull",
                    "road york hull Gate", "road york  hull", "road york hull ", "road  york hull", "road york hull g1",
                    "road york abcdefghi", "road york hull abcdefghi"):
            self.check(3, f"{ROAD_ROWS}\n{row}")
            self.check(5, f"{ROAD_ROWS}\n\n\n{row}\nvoids\n1 0")

    def test_roads_too_many(self):
        eight = "\n".join(["road a b"] * 8)
        self.assertEqual(run(eight + "\nway a b"), ["0"])
        self.check(8, eight + "\nroad a b")
        self.check(9, eight + "\n\nroad a b")

    def test_places_and_gates_too_many(self):
        places = "road a b\nroad c d\nroad e f\nroad g h"
        self.assertEqual(run(places + "\nway a b"), ["0"])
        self.check(4, places + "\nroad a i")
        gates = "road a b k l m n o\nroad a b p q r s t"
        self.assertEqual(run(gates + "\nholder t 0"), ["TRUST"])
        self.check(2, gates + "\nroad a b u")

    def test_gates_and_places_of_roads_that_stand_behind(self):
        self.check(1, "road a b k\nholder l 0\nroad a c l")
        self.check(0, "holder k 0\nroad a b k")

    def test_the_first_row_that_cant_stand(self):
        self.check(3, ROAD_ROWS + "\nvoid\nvoids\nroad a b\n1 0")
        self.check(4, ROAD_ROWS + "\nvoids\nvoid\nroad a b\n1 0")
        self.check(1, "road a b\nroad a a\nroad a b k k\nvoid")

    def test_ahead_of_all_answers(self):
        self.check(203, ROAD_ROWS + "\nvoids" * 200 + "\nvoid")

    def test_the_only_row(self):
        for text in ("x", " ", "road", "0", "holder quay 0", "way york york", "1 0 taken quay 5"):
            self.check(0, text)


if __name__ == "__main__":
    unittest.main()
