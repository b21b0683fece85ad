"""What holds over the whole program."""
import random
import unittest

from lettolls.book import Book
from lettolls.desk import run
from lettolls.dues import borne, due_of, dues_at
from lettolls.failing import fallen
from lettolls.holding import Held
from lettolls.roadtexts import read_roads
from lettolls.rolls import read_roll
from lettolls.takings import balances, books_part, passes, takings
from logs import ROADS, some_log, some_whole_log

STORY_ROADS = """road york hull east west
road hull goole quay
road york goole north"""
STORY = """1 0 table east cow 0 - 2 1 2 ; * 0 9 5 0 1
2 0 table west * 0 - 0 1 1
3 0 table quay * 0 - 3 0 1
4 0 table north * 0 - 12 0 1
10 100 bid 1 ann east west 728 bob 2 cat 1
11 110 bid 1 dan east east 300
12 120 bid 1 eve west west 400 bob 1
13 130 bid 1 fay quay quay 364
14 140 bid 1 gus north north 91 cat 1
15 300 let 1
16 350 under ann hal west 400 499 200
17 410 under hal fay west 450 459 5
18 420 fail ann
19 420 anew ida east 727 154
20 415 shut east 430 431
21 405 load cow 5 york goole
22 406 load cow 1 york goole
23 425 load pig 2 goole york
24 430 load pig 2 york goole
25 407 free pig 426 440
26 406 taken east 3
27 406 taken west 1
28 406 taken quay 2
29 405 taken north 12
30 500 bid 1 zoe quay quay 999
31 460 under ann zoe east 470 480 5
32 430 anew ann west 500 5
33 600 shut quay 600 600
34 600 shut north 600 600
35 600 load cow 1 hull goole"""


class OneStory(unittest.TestCase):
    """All reckoned by hand.

    Ann's bid brings 728, the two others of her gates 700, so each of her gates is let for a penny a day. Fay's quay is a
    penny a day too, gus's north a penny each fourth day. Hal's west is two pence a day. Ann fails on the day 420, 56 days
    behind the quarter's first; ida has east then, for a penny each second day.
    """

    def setUp(self):
        self.roads = read_roads(STORY_ROADS)
        self.entries = read_roll(self.roads, STORY)
        self.held = Held(self.roads, self.entries)

    def at_desk(self, *asks):
        return run("\n".join([STORY_ROADS, STORY, *asks]))

    def test_voids(self):
        self.assertEqual(self.held.voids(), [(32, "failed"), (31, "none"), (30, "late"), (35, "none")])
        self.assertEqual(self.at_desk("voids"), ["32 failed; 31 none; 30 late; 35 none"])

    def test_leases(self):
        self.assertEqual(self.held.leases(), [
            (0, 10, "east", "TRUST", "ann", 364, 727, 364), (1, 10, "west", "TRUST", "ann", 364, 727, 364),
            (2, 13, "quay", "TRUST", "fay", 364, 727, 364), (3, 14, "north", "TRUST", "gus", 364, 727, 91),
            (4, 16, "west", "ann", "hal", 400, 499, 200), (5, 17, "west", "hal", "fay", 450, 459, 5),
            (6, 19, "east", "TRUST", "ida", 420, 727, 154)])
        self.assertEqual([str(self.held.days_of(lease)) for lease in range(7)],
                         ["364-419", "364-419", "364-727", "364-727", "400-419", "-", "420-727"])

    def test_holders(self):
        self.assertEqual(self.held.stretches("east"),
                         [(0, 363, "TRUST"), (364, 419, "ann"), (420, 727, "ida"), (728, 3639, "TRUST")])
        self.assertEqual(self.held.stretches("west"),
                         [(0, 363, "TRUST"), (364, 399, "ann"), (400, 419, "hal"), (420, 3639, "TRUST")])
        self.assertEqual(self.at_desk("holder west 410", "holder west 455", "chain west 410", "chain west 455"),
                         ["hal", "TRUST", "TRUST ann 364; ann hal 200", "-"])

    def test_dues(self):
        self.assertEqual(dues_at(self.held, 4), [("TRUST", "fay", "quay", 2, 91), ("TRUST", "gus", "north", 3, 22),
                                                 ("TRUST", "ida", "east", 6, 16), ("ann", "hal", "west", 4, 40)])
        self.assertEqual(self.at_desk("dues 3", "dues 4", "dues 5", "dues 6", "dues 7", "dues 8"), [
            "-", "TRUST fay quay 91; TRUST gus north 22; TRUST ida east 16; ann hal west 40",
            "TRUST fay quay 91; TRUST gus north 23; TRUST ida east 46",
            "TRUST fay quay 90; TRUST gus north 23; TRUST ida east 45",
            "TRUST fay quay 91; TRUST gus north 23; TRUST ida east 46", "-"])
        self.assertEqual((due_of(self.held, 6, 429, 432), due_of(self.held, 0, 0, 3639)), (1, 56))
        self.assertEqual([borne(self.held, "east", day) for day in (429, 430, 431)],
                         [[], [("TRUST", 0), ("ida", 0)], [("TRUST", 1), ("ida", -1)]])

    def test_fallen(self):
        self.assertEqual(fallen(self.held), [(18, 0, "TRUST", 56, 153, [("bob", 139), ("cat", 70)], 0),
                                             (18, 1, "TRUST", 56, 308, [("bob", 242), ("cat", 122)], 0)])
        self.assertEqual(self.at_desk("fallen"), ["18 TRUST 56 153 0; 18 TRUST 56 308 0"])

    def test_passes(self):
        self.assertEqual(passes(self.held), [
            (21, 405, "north", 12, "gus", "00150"), (22, 406, "east", 3, "ann", "00160"), (22, 406, "west", 1, "hal", "00161"),
            (22, 406, "quay", 3, "fay", "00162"), (23, 425, "quay", 3, "fay", "00170"), (23, 425, "west", 2, "TRUST", "00171"),
            (23, 425, "east", 5, "ida", "00172"), (24, 430, "north", 0, "gus", "00180")])
        self.assertEqual(self.at_desk("passes"), [
            "00150 north 12 gus; 00160 east 3 ann; 00161 west 1 hal; 00162 quay 3 fay; 00170 quay 3 fay; 00171 west 2 TRUST; "
            "00172 east 5 ida; 00180 north 0 gus"])

    def test_takings_and_books(self):
        self.assertEqual(takings(self.held), [
            (405, "north", "gus", 12), (406, "east", "ann", 3), (406, "quay", "fay", 3), (406, "west", "hal", 1),
            (425, "east", "ida", 5), (425, "quay", "fay", 3), (425, "west", "TRUST", 2)])
        self.assertEqual(books_part(self.held), (406, "quay", 3, 2))
        told = ["40 406 taken quay 1", "41 425 taken east 5", "42 425 taken quay 3", "43 425 taken west 2", "books"]
        self.assertEqual(self.at_desk("books", told[0], "books", *told[1:]), ["406 quay 3 2", "425 east 5 0", "alike"])

    def test_balances(self):
        self.assertEqual(balances(self.held), [("TRUST", 1182), ("ann", 43), ("bob", -381), ("cat", -192), ("fay", -357),
                                               ("gus", -79), ("hal", -39), ("ida", -148)])
        self.assertEqual(self.at_desk("balances"),
                         ["TRUST 1182; ann 43; bob -381; cat -192; fay -357; gus -79; hal -39; ida -148"])

    def test_ways_and_tables(self):
        self.assertEqual(self.at_desk("way york goole", "way hull york", "way hull hull", "part east 0 west 0",
                                      "part quay 0 quay 500", "part quay 0 north 0"),
                         ["2", "0", "-", "0 *", "alike", "0 *"])

    def test_told_late(self):
        book = Book(self.roads)
        late, = [entry for entry in self.entries if entry[0] == 18]
        for entry in self.entries:
            if entry != late:
                book.put(entry)
        # without ann's failing ida's lease is void; zoe's, of the days 470 to 480, would not be, and fay's neither
        self.assertEqual(book.told_late(late), [
            ("east", 420, 469, "ann", "ida"), ("east", 470, 480, "zoe", "ida"), ("east", 481, 727, "ann", "ida"),
            ("west", 420, 449, "hal", "TRUST"), ("west", 450, 459, "fay", "TRUST"), ("west", 460, 499, "hal", "TRUST"),
            ("west", 500, 727, "ann", "TRUST")])
        self.assertEqual(book.held().leases(), self.held.leases())

    def test_in_several_orders(self):
        chance = random.Random(151)
        rows = STORY.split("\n")
        asks = ["voids", "dues 4", "fallen", "passes", "books", "balances", "chain west 410"]
        expected = self.at_desk(*asks)
        for _ in range(10):
            chance.shuffle(rows)
            self.assertEqual(run("\n".join([STORY_ROADS, *rows, *asks])), expected)


def answers_of(held):
    return (held.voids(), held.leases(), held.log(), [held.stretches(gate) for gate in ROADS.gates()],
            [dues_at(held, quarter) for quarter in range(40)], fallen(held), passes(held), takings(held),
            books_part(held), balances(held))


def lists_in(told):
    """All lists in what was told."""
    found = [told] if isinstance(told, list) else []
    for part in told if isinstance(told, (list, tuple)) else ():
        found += lists_in(part)
    return found


class AHundredEntries(unittest.TestCase):
    def test_several_orders(self):
        chance = random.Random(152)
        for make in (lambda: some_whole_log(chance, 50), lambda: some_log(chance, 100)):
            entries = make()
            expected = answers_of(Held(ROADS, entries))
            for _ in range(3):
                chance.shuffle(entries)
                book = Book(ROADS)
                for entry in entries:
                    book.put(entry)
                self.assertEqual(answers_of(book.held()), expected)

    def test_two_hundred_deeds(self):
        chance = random.Random(153)
        entries = some_whole_log(chance, 50)
        self.assertEqual(len(entries), 100)
        book = Book(ROADS)
        for entry in entries:
            book.put(entry)
        expected = answers_of(book.held())
        struck = chance.sample(entries, 50)
        for entry in struck:
            book.strike(entry[0])
        for entry in struck[::-1]:
            book.put(entry)
        self.assertEqual(book.deeds(), 200)
        self.assertEqual(answers_of(book.held()), expected)
        for _ in range(100):
            book.undo()
        self.assertEqual(answers_of(book.held()), expected)

    def test_the_same_question_is_told_the_same(self):
        held = Held(ROADS, some_whole_log(random.Random(154), 50))
        self.assertEqual(answers_of(held), answers_of(held))

    def test_told_lists_are_the_askers_own(self):
        held = Held(ROADS, some_whole_log(random.Random(155), 50))
        kept = answers_of(held)
        lists = lists_in(answers_of(held)) + lists_in(kept)
        self.assertEqual(len({id(told) for told in lists}), len(lists))
        for told in lists_in(answers_of(held)):
            told.clear()
        self.assertEqual(answers_of(held), kept)

    def test_each_gate_has_one_holder_on_each_day(self):
        held = Held(ROADS, some_whole_log(random.Random(156), 50))
        for gate in ROADS.gates():
            days = [day for first, last, holder in held.stretches(gate) for day in range(first, last + 1)]
            self.assertEqual(days, list(range(3640)))

    def test_balances_are_all_takings(self):
        chance = random.Random(157)
        for _ in range(30):
            held = Held(ROADS, some_whole_log(chance, 50))
            self.assertEqual(sum(pence for name, pence in balances(held)), sum(row[3] for row in takings(held)))

    def test_what_was_told_may_be_handed_in_again(self):
        held = Held(ROADS, some_whole_log(random.Random(158), 50))
        again = Held(held.roads(), held.log())
        self.assertEqual(answers_of(again), answers_of(held))
        self.assertEqual(answers_of(Held(ROADS, read_roll(ROADS, str(self.book_of(held))))), answers_of(held))

    def book_of(self, held):
        book = Book(held.roads())
        for entry in held.log():
            book.put(entry)
        return book


if __name__ == "__main__":
    unittest.main()
