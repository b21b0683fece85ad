import itertools
import random
import unittest

from lettolls.book import Book
from lettolls.entries import in_order
from lettolls.errors import BadEntry, Full, NoDeed, NoEntry, Twice
from lettolls.holding import Held
from lettolls.roads import Roads
from lettolls.rolls import roll_text
from logs import ENTRIES, ROADS, TEXTS, some_log, some_story, told_by
from things import THINGS, some_thing, with_part

ALL = list(ENTRIES.values())
OTHER = Roads([("a", "b", ("k",))])


def book_of(entries, roads=ROADS):
    book = Book(roads)
    for entry in entries:
        book.put(entry)
    return book


def state_of(book):
    return book.entries(), book.deeds(), len(book), str(book), book.held().leases()


class BookCase(unittest.TestCase):
    def refused(self, error, book, deed, *parts):
        """That a deed is refused, and changes nothing; what it is refused with."""
        before = state_of(book)
        with self.assertRaises(error) as caught:
            deed(*parts)
        self.assertEqual(state_of(book), before)
        return caught.exception


class Empty(BookCase):
    def test_no_entries(self):
        book = Book(ROADS)
        self.assertEqual((book.entries(), book.deeds(), len(book), str(book)), ([], 0, 0, ""))
        self.assertEqual(book.held().stretches("quay"), [(0, 3639, "TRUST")])
        self.assertEqual(book.held().roads(), ROADS)

    def test_of_no_roads(self):
        book = Book(Roads([]))
        book.put((1, 0, "fail", "ann"))
        self.assertEqual(str(book), "1 0 fail ann")


class Put(BookCase):
    def test_entries_of_all_words(self):
        book = Book(ROADS)
        for many, entry in enumerate(ALL):
            self.assertEqual((len(book), book.deeds()), (many, many))
            self.assertIsNone(book.put(entry))
            self.assertIn(entry, book.entries())
        self.assertEqual(book.entries(), in_order(ALL))

    def test_no_entry(self):
        book = book_of(ALL[:2])
        chance = random.Random(131)
        for thing in THINGS + [some_thing(chance) for _ in range(100)]:
            self.refused(BadEntry, book, book.put, thing)
        for entry in ALL:
            for bad in (list(entry), entry[:-1], entry + (0,), with_part(entry, 0, 10000), with_part(entry, 1, -1)):
                self.refused(BadEntry, book, book.put, bad)

    def test_entries_of_other_roads(self):
        book = Book(OTHER)
        for word in ("bid", "under", "anew", "shut", "table", "load", "taken"):
            self.refused(BadEntry, book, book.put, ENTRIES[word])
        book.put((1, 0, "taken", "k", 5))
        self.assertEqual(len(book), 1)

    def test_words_of_the_error(self):
        self.assertIsInstance(self.refused(BadEntry, Book(ROADS), Book(ROADS).put, None).words, str)

    def test_twice(self):
        book = book_of(ALL)
        for entry in ALL:
            for again in (entry, (entry[0], 0, "fail", "zoe")):
                self.assertEqual(self.refused(Twice, book, book.put, again).number, entry[0])

    def test_full(self):
        book = book_of([(number, 0, "fail", "ann") for number in range(1, 101)])
        self.assertEqual(len(book), 100)
        self.assertEqual(self.refused(Full, book, book.put, (101, 0, "fail", "ann")).many, 100)
        book.strike(50)
        book.put((101, 0, "fail", "ann"))
        self.assertEqual(self.refused(Full, book, book.put, (50, 0, "fail", "ann")).many, 100)

    def test_the_first_one_due(self):
        book = book_of([(number, 0, "fail", "ann") for number in range(1, 101)])
        self.refused(BadEntry, book, book.put, (7, 0, "fail", "Ann"))
        self.refused(BadEntry, book, book.put, (101, 0, "fail", "Ann"))
        self.refused(Twice, book, book.put, (7, 0, "fail", "bob"))
        book = book_of(ALL)
        self.refused(BadEntry, book, book.put, (7, 0, "fail", "Ann"))


class Strike(BookCase):
    def test_it_is_gone(self):
        book = book_of(ALL)
        for entry in ALL:
            self.assertIsNone(book.strike(entry[0]))
            self.assertNotIn(entry, book.entries())
        self.assertEqual((len(book), book.deeds()), (0, 2 * len(ALL)))

    def test_no_entry(self):
        book = book_of(ALL)
        book.strike(7)
        for number in (7, 1, 0, -1, -7, -8, 9999, 10000, 10 ** 30, -10 ** 30):
            self.assertEqual(self.refused(NoEntry, book, book.strike, number).number, number)
        self.refused(NoEntry, Book(ROADS), Book(ROADS).strike, 1)

    def test_struck_and_put_again(self):
        book = book_of(ALL)
        book.strike(7)
        book.put((7, 3639, "fail", "ann"))
        self.assertEqual(book.entries()[-1], (7, 3639, "fail", "ann"))
        self.assertEqual((len(book), book.deeds()), (len(ALL), len(ALL) + 2))
        self.refused(Twice, book, book.put, ENTRIES["bid"])
        book.strike(7)
        book.put(ENTRIES["bid"])
        self.assertEqual(book, book_of(ALL))


class Undo(BookCase):
    def test_a_put(self):
        book = book_of(ALL)
        self.assertIsNone(book.undo())
        self.assertEqual((book.entries(), book.deeds()), (in_order(ALL[:-1]), len(ALL) - 1))
        book.put(ALL[-1])
        self.assertEqual(book.entries(), in_order(ALL))

    def test_a_strike(self):
        book = book_of(ALL)
        book.strike(7)
        book.undo()
        self.assertEqual((book.entries(), book.deeds()), (in_order(ALL), len(ALL)))
        self.refused(Twice, book, book.put, ENTRIES["bid"])

    def test_none(self):
        book = Book(ROADS)
        self.assertEqual(self.refused(NoDeed, book, book.undo).many, 0)
        book.put(ALL[0])
        book.undo()
        self.assertEqual(self.refused(NoDeed, book, book.undo).many, 0)
        book = book_of(ALL[:3])
        book.strike(ALL[0][0])
        for _ in range(4):
            book.undo()
        self.assertEqual(self.refused(NoDeed, book, book.undo).many, 0)
        self.assertEqual(book, Book(ROADS))

    def test_a_number_put_struck_and_put_again(self):
        book = book_of([(7, 0, "fail", "ann")])
        book.strike(7)
        book.put((7, 0, "fail", "bob"))
        told = [str(book)]
        for _ in range(3):
            book.undo()
            told.append(str(book))
        self.assertEqual(told, ["7 0 fail bob", "", "7 0 fail ann", ""])

    def test_refusals_are_no_deeds(self):
        book = book_of(ALL[:2])
        for deed, part in ((book.put, ALL[0]), (book.put, None), (book.strike, 9999)):
            with self.assertRaises((BadEntry, Twice, NoEntry)):
                deed(part)
        book.undo()
        self.assertEqual((book.entries(), book.deeds()), (ALL[:1], 1))

    def test_a_full_book(self):
        book = book_of([(number, 0, "fail", "ann") for number in range(1, 101)])
        book.strike(1)
        book.put((101, 0, "fail", "ann"))
        book.undo()
        book.undo()
        self.assertEqual((len(book), book.entries()[0]), (100, (1, 0, "fail", "ann")))
        self.refused(Full, book, book.put, (101, 0, "fail", "ann"))


class After(BookCase):
    def deeds(self):
        """A book of four puts and a strike, and what its entries were behind each."""
        book = Book(ROADS)
        kept = [[]]
        for entry in ALL[:3]:
            book.put(entry)
            kept.append(book.entries())
        book.strike(ALL[1][0])
        kept.append(book.entries())
        book.put(ALL[3])
        kept.append(book.entries())
        return book, kept

    def test_of_none_some_and_all(self):
        book, kept = self.deeds()
        for many in range(6):
            other = book.after(many)
            self.assertIsInstance(other, Book)
            self.assertEqual((other.entries(), other.deeds()), (kept[many], many))
            self.assertEqual(other.held().roads(), ROADS)
        self.assertEqual((book.entries(), book.deeds()), (kept[5], 5))

    def test_more_than_there_were(self):
        book, kept = self.deeds()
        for many in (6, 7, 200, 10 ** 30):
            self.assertEqual(self.refused(NoDeed, book, book.after, many).many, many)
        book.undo()
        self.assertEqual(self.refused(NoDeed, book, book.after, 5).many, 5)
        self.assertEqual(book.after(4).entries(), kept[4])
        self.assertEqual(self.refused(NoDeed, Book(ROADS), Book(ROADS).after, 1).many, 1)
        self.assertEqual(Book(ROADS).after(0), Book(ROADS))

    def test_undone_in_it(self):
        book, kept = self.deeds()
        other = book.after(5)
        for many in range(4, -1, -1):
            other.undo()
            self.assertEqual((other.entries(), other.deeds()), (kept[many], many))
        self.assertEqual(self.refused(NoDeed, other, other.undo).many, 0)
        self.assertEqual((book.entries(), book.deeds()), (kept[5], 5))

    def test_their_own_ways(self):
        book, kept = self.deeds()
        for make in (lambda: book.after(5), book.twin, lambda: book.after(2)):
            other = make()
            before = state_of(other)
            book.put((99, 0, "fail", "zoe"))
            self.assertEqual(state_of(other), before)
            book.undo()
            other.put((98, 0, "fail", "zoe"))
            other.strike(ALL[0][0])
            self.assertEqual((book.entries(), book.deeds()), (kept[5], 5))

    def test_twin(self):
        book, kept = self.deeds()
        other = book.twin()
        self.assertIsInstance(other, Book)
        self.assertIsNot(other, book)
        self.assertEqual(state_of(other), state_of(book))
        self.assertEqual(other, book)
        other.undo()
        self.assertNotEqual(other, book)
        self.assertEqual((other.entries(), book.entries()), (kept[4], kept[5]))
        other.undo()
        self.assertEqual(other.entries(), kept[3])
        self.assertEqual(Book(ROADS).twin(), Book(ROADS))

    def test_a_twin_of_a_twin(self):
        book, kept = self.deeds()
        other = book.after(4).twin().after(3)
        other.undo()
        self.assertEqual(other.entries(), kept[2])


class Asked(BookCase):
    def test_entries_in_order(self):
        chance = random.Random(132)
        entries = some_log(chance, 100)
        book = book_of(entries)
        self.assertEqual(book.entries(), in_order(entries))
        self.assertEqual(len(book), 100)

    def test_held_of_these(self):
        entries = some_story(random.Random(133), 50)
        told, expected = book_of(entries).held(), Held(ROADS, entries)
        self.assertIsInstance(told, Held)
        self.assertEqual((told.log(), told.leases(), told.voids(), told.roads()),
                         (expected.log(), expected.leases(), expected.voids(), expected.roads()))

    def test_held_stays_as_it_was(self):
        book = book_of([(1, 0, "anew", "ann", "quay", 9, 5, ())])
        held = book.held()
        book.strike(1)
        self.assertEqual((held.holder("quay", 5), book.held().holder("quay", 5)), ("ann", "TRUST"))
        book.undo()
        self.assertEqual(book.held().holder("quay", 5), "ann")

    def test_text(self):
        self.assertEqual(str(book_of(ALL)), roll_text(in_order(ALL)))
        self.assertEqual(str(book_of([ENTRIES["let"], ENTRIES["bid"]])), TEXTS["bid"] + "\n" + TEXTS["let"])

    def test_told_lists_are_the_askers_own(self):
        book = book_of(ALL)
        book.entries().clear()
        book.held().log().clear()
        self.assertEqual(book.entries(), in_order(ALL))
        self.assertIsNot(book.entries(), book.entries())

    def test_equal_in_whatever_order(self):
        for order in itertools.permutations(ALL[:4]):
            self.assertEqual(book_of(order), book_of(ALL[:4]))
            self.assertEqual(str(book_of(order)), str(book_of(ALL[:4])))
        self.assertIs(book_of(ALL) == book_of(ALL[::-1]), True)
        self.assertIs(book_of(ALL) != book_of(ALL[::-1]), False)

    def test_equal_by_other_deeds(self):
        book = book_of(ALL)
        book.strike(ALL[2][0])
        book.strike(ALL[-1][0])
        self.assertEqual(book, book_of(ALL[:2] + ALL[3:-1]))

    def test_unlike_entries(self):
        book = book_of(ALL)
        for other in (ALL[:-1], [], ALL[1:] + [(7, 0, "fail", "ann")], ALL + [(99, 0, "fail", "ann")]):
            self.assertIs(book == book_of(other), False)
            self.assertIs(book_of(other) == book, False)

    def test_unlike_roads(self):
        entries = [(1, 0, "fail", "ann")]
        self.assertIs(book_of(entries) == book_of(entries, OTHER), False)
        self.assertIs(Book(ROADS) == Book(OTHER), False)
        self.assertIs(Book(ROADS) == Book(Roads(ROADS.rows())), True)
        self.assertIs(Book(ROADS) == Book(Roads(ROADS.rows()[::-1])), False)

    def test_other_things(self):
        for thing in (None, 0, "", [], ROADS):
            self.assertIs(Book(ROADS) == thing, False)

    def test_arguments_by_their_names(self):
        book = Book(roads=ROADS)
        book.put(entry=ALL[0])
        self.assertEqual(book.told_late(entry=ALL[1]), [("east", 364, 727, "TRUST", "ann"), ("mid", 364, 727, "TRUST", "ann"),
                                                        ("west", 364, 727, "TRUST", "ann")])
        self.assertEqual(book.after(many=1).entries(), ALL[:1])
        book.strike(number=8)
        self.assertEqual(book.entries(), ALL[:1])


class ToldLate(BookCase):
    LET = "1 0 bid 1 ann east west 900\n2 300 let 1\n3 350 under ann cat mid 400 409 5\n4 350 under ann cat mid 420 429 5\n"

    def check(self, text, late, *expected):
        """What is told of a late row, as texts."""
        book = book_of(told_by(text))
        entry, = told_by(late)
        kept = state_of(book)
        told = book.told_late(entry)
        for row in told:
            self.assertIsInstance(row, tuple)
        self.assertEqual([" ".join(map(str, row)) for row in told], list(expected))
        self.assertEqual(book, book_of(told_by(text) + [entry]))
        self.assertEqual(book.deeds(), kept[1] + 1)
        book.undo()
        self.assertEqual(state_of(book), kept)

    def test_refused_as_a_put_is(self):
        book = book_of([(number, 0, "fail", "ann") for number in range(1, 101)])
        self.refused(BadEntry, book, book.told_late, (7, 0, "fail", "Ann"))
        self.assertEqual(self.refused(Twice, book, book.told_late, (7, 0, "fail", "bob")).number, 7)
        self.assertEqual(self.refused(Full, book, book.told_late, (101, 0, "fail", "bob")).many, 100)
        self.refused(BadEntry, Book(ROADS), Book(ROADS).told_late, None)

    def test_no_other_holder(self):
        for late in ("9 0 table quay -", "9 0 load cow 5 york hull", "9 0 taken quay 5", "9 0 free cow 5 6", "9 0 shut quay 5 6",
                     "9 400 fail zoe", "9 0 bid 1 zoe east west 1", "9 400 under zoe ann mid 400 409 5", "9 301 let 1",
                     "9 299 let 0", "9 400 bid 1 zoe east west 1000", "9 728 fail ann", "9 430 fail cat"):
            self.check(self.LET, late)
        self.check("", "1 0 fail ann")

    def test_a_late_under(self):
        self.check(self.LET, "9 350 under ann dan mid 410 412 5", "mid 410 412 ann dan")
        self.check(self.LET, "9 350 under cat dan mid 405 409 5", "mid 405 409 cat dan")
        self.check(self.LET, "9 350 under ann dan west 364 727 5", "west 364 727 ann dan")

    def test_a_late_under_that_makes_another_void(self):
        self.check(self.LET, "9 349 under ann dan mid 409 410 5", "mid 400 408 cat ann", "mid 409 409 cat dan",
                   "mid 410 410 ann dan")

    def test_a_late_fail(self):
        self.check(self.LET, "9 405 fail ann", "east 405 727 ann TRUST", "mid 405 409 cat TRUST", "mid 410 419 ann TRUST",
                   "mid 420 429 cat TRUST", "mid 430 727 ann TRUST", "west 405 727 ann TRUST")
        self.check(self.LET, "9 425 fail cat", "mid 425 429 cat ann")
        self.check(self.LET, "9 400 fail cat", "mid 400 409 cat ann", "mid 420 429 cat ann")

    def test_a_late_bid_ahead_of_a_let(self):
        self.check(self.LET, "9 1 bid 1 zoe mid mid 901", "east 364 727 ann TRUST", "mid 364 399 ann zoe",
                   "mid 400 409 cat zoe", "mid 410 419 ann zoe", "mid 420 429 cat zoe", "mid 430 727 ann zoe",
                   "west 364 727 ann TRUST")
        self.check(self.LET, "9 1 bid 1 cat mid mid 901", "east 364 727 ann TRUST", "mid 364 399 ann cat",
                   "mid 410 419 ann cat", "mid 430 727 ann cat", "west 364 727 ann TRUST")

    def test_a_late_let(self):
        self.check("1 0 bid 1 ann quay quay 9\n2 0 bid 2 bob quay quay 9\n3 1 bid 2 ann east east 9", "4 300 let 2",
                   "east 728 1091 TRUST ann", "quay 728 1091 TRUST bob")

    def test_at_the_first_and_last_days(self):
        self.check("", "1 0 anew ann quay 0 5", "quay 0 0 TRUST ann")
        self.check("", "1 3276 anew ann quay 3639 5", "quay 3276 3639 TRUST ann")

    def test_one_stretch_over_several_leases(self):
        # TRUST ahead, and one holder now by two leases: one stretch; two holders: two stretches
        self.check("1 364 anew ann quay 500 5\n2 0 fail zoe", "3 0 fail ann", "quay 364 500 ann TRUST")
        self.check("1 0 bid 1 ann quay quay 5\n2 0 bid 2 ann quay quay 5\n3 1 let 1\n4 1 let 2", "5 300 fail ann",
                   "quay 364 1091 ann TRUST")
        self.check("1 0 bid 1 ann quay quay 5\n2 0 bid 2 bob quay quay 5\n3 1 let 1\n4 1 let 2\n"
                   "6 5 under ann cat quay 727 727 5\n7 5 under bob cat quay 728 728 5", "5 300 fail cat",
                   "quay 727 727 cat ann", "quay 728 728 cat bob")

    def test_any_stories(self):
        chance = random.Random(134)
        many = 0
        for _ in range(40):
            entries = some_story(chance, 40)
            late = chance.choice(entries)
            before = [entry for entry in entries if entry != late]
            told = book_of(before).told_late(late)
            self.assertEqual(told, sorted(told))
            days = {(gate, day): pair for gate, first, last, *pair in told for day in range(first, last + 1)}
            old, new = Held(ROADS, before), Held(ROADS, entries)
            for gate in ROADS.gates():
                for day in range(0, 3640, 5):
                    pair = [old.holder(gate, day), new.holder(gate, day)]
                    self.assertEqual(days.get((gate, day), []), pair if pair[0] != pair[1] else [])
            for one, other in itertools.pairwise(told):
                meet = one[0] == other[0] and one[2] + 1 == other[1]
                self.assertFalse(meet and one[3:] == other[3:])
            many += len(told) > 1
        self.assertGreater(many, 5)


class HandedIn(BookCase):
    def test_what_is_handed_in_stays(self):
        rows = ROADS.rows()
        book = book_of(ALL)
        self.assertEqual(ROADS.rows(), rows)
        self.assertIsNot(book.held().roads(), ROADS)

    def test_two_hundred_deeds(self):
        chance = random.Random(135)
        entries = some_log(chance, 100)
        book = Book(ROADS)
        kept = [[]]
        for entry in entries:
            book.put(entry)
            kept.append(book.entries())
        for entry in chance.sample(entries, 100):
            book.strike(entry[0])
            kept.append(book.entries())
        self.assertEqual((book.deeds(), len(book)), (200, 0))
        for many in (0, 1, 99, 100, 101, 150, 199, 200):
            self.assertEqual(book.after(many).entries(), kept[many])
        for many in range(199, -1, -1):
            book.undo()
            self.assertEqual(book.entries(), kept[many])

    def test_any_deeds(self):
        chance = random.Random(136)
        for _ in range(20):
            entries = some_log(chance, 12)
            book, kept = Book(ROADS), [{}]
            for _ in range(60):
                now = dict(kept[-1])
                entry = chance.choice(entries)
                if chance.random() < 0.3 and len(kept) > 1:
                    book.undo()
                    kept.pop()
                elif entry[0] in now:
                    book.strike(entry[0])
                    del now[entry[0]]
                    kept.append(now)
                else:
                    book.put(entry)
                    kept.append({**now, entry[0]: entry})
                self.assertEqual((book.entries(), book.deeds()), (in_order(list(kept[-1].values())), len(kept) - 1))
            many = chance.randrange(len(kept))
            self.assertEqual(book.after(many).entries(), in_order(list(kept[many].values())))


if __name__ == "__main__":
    unittest.main()
