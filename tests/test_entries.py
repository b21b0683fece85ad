import itertools
import random
import unittest

from lettolls.days import Days
from lettolls.entries import in_order, is_entry, shut_days, shut_on
from lettolls.roads import Roads
from logs import ENTRIES, FOUR, ROADS, TABLE, some_entry, some_log
from things import THINGS, deep, some_thing, with_part

# where in an entry, by its word, parts of a kind stand, number, day and word counted
YEARS = {"bid": [3], "let": [3]}
NAMES = {"bid": [4], "under": [3, 4], "anew": [3], "fail": [3], "free": [3], "load": [3]}
GATES = {"bid": [5, 6], "under": [5], "anew": [4], "shut": [3], "table": [3], "taken": [3]}
PENCE = {"bid": [7], "under": [8], "anew": [6], "taken": [4]}
PLACES = {"load": [5, 6]}
SURETIES = {"bid": [8], "anew": [7]}
SPANS = {"under": 6, "shut": 4, "free": 4}
NO_NUMBERS = [True, False, None, "", "1", [], (), [1], (1,), deep(1, list), deep(1, tuple)]
NO_TEXTS = [True, False, None, 0, 1, -1, [], (), ["ann"], ("ann",), ["a", "n", "n"], deep("a", list), deep("a", tuple)]


class IsEntry(unittest.TestCase):
    def check(self, expected, *things, roads=ROADS):
        for thing in things:
            with self.subTest(thing=thing):
                self.assertIs(is_entry(roads, thing), expected)

    def check_parts(self, places, good, bad):
        """Of entries of these words, parts at these places that may stand there and that may not."""
        for word in places:
            for at in places[word]:
                self.check(True, *[with_part(ENTRIES[word], at, part) for part in good])
                self.check(False, *[with_part(ENTRIES[word], at, part) for part in bad])

    def test_one_of_each_word(self):
        self.check(True, *ENTRIES.values())

    def test_any_entries(self):
        chance = random.Random(81)
        for _ in range(1000):
            self.check(True, some_entry(chance, chance.randint(1, 9999)))

    def test_numbers(self):
        for entry in ENTRIES.values():
            self.check(True, *[with_part(entry, 0, number) for number in (1, 2, 9999)])
            self.check(False, *[with_part(entry, 0, number) for number in [0, 10000, -1, 10 ** 30] + NO_NUMBERS])

    def test_days(self):
        for entry in ENTRIES.values():
            self.check(False, *[with_part(entry, 1, day) for day in [3640, -1, 10 ** 30, -10 ** 30] + NO_NUMBERS])
        for word in ("bid", "let", "fail", "table", "load", "taken"):
            self.check(True, *[with_part(ENTRIES[word], 1, day) for day in (0, 1, 363, 364, 3638, 3639)])

    def test_words(self):
        for entry in ENTRIES.values():
            self.check(False, *[with_part(entry, 2, word) for word in ["", "Bid", "bids", "bi", "toll", "BID", " bid"]])
            self.check(False, *[with_part(entry, 2, word) for word in NO_TEXTS])
        for one, other in itertools.permutations(ENTRIES, 2):
            # a gate's name may be a kind's too
            self.check((one, other) == ("shut", "free"), with_part(ENTRIES[one], 2, other))

    def test_parts_left_out(self):
        for entry in ENTRIES.values():
            for at in range(len(entry)):
                self.check(False, entry[:at] + entry[at + 1:], entry[:at])

    def test_a_part_too_many(self):
        for entry in ENTRIES.values():
            for part in (entry[-1], 0, None, (), "ann", entry):
                self.check(False, entry + (part,), (part,) + entry)
            self.check(False, entry[:3] + (entry[3],) + entry[3:])

    def test_lists_for_tuples(self):
        for entry in ENTRIES.values():
            self.check(False, list(entry), [entry], (entry,))

    def test_things_that_are_no_tuple_at_all(self):
        self.check(False, *THINGS)
        chance = random.Random(82)
        for _ in range(2000):
            self.check(False, some_thing(chance))

    def test_any_thing_as_a_part(self):
        chance = random.Random(83)
        for thing in THINGS + [some_thing(chance) for _ in range(200)]:
            for entry in ENTRIES.values():
                for at in range(len(entry)):
                    changed = with_part(entry, at, thing)
                    self.assertIn(is_entry(ROADS, changed), (True, False))
                    if isinstance(thing, (list, bool)) or thing is None:
                        self.check(False, changed)

    def test_years(self):
        self.check_parts(YEARS, range(10), [10, -1, 10 ** 30] + NO_NUMBERS)

    def test_names(self):
        self.check_parts(NAMES, ["z", "zoe", "abcdefgh"],
                         ["", "abcdefghi", "Zoe", "zo e", "z1", "TRUST", "*", "-", "zoe\n", "\u00e4"] + NO_TEXTS)

    def test_gates(self):
        self.check_parts(GATES, ["mid"], ["north", "york", "", "EAST", "eas", "TRUST"] + NO_TEXTS)
        for word in ("under", "anew", "shut", "table", "taken"):
            at = GATES[word][0]
            self.check(True, *[with_part(ENTRIES[word], at, gate) for gate in ROADS.gates()])

    def test_places(self):
        self.check_parts(PLACES, ["york", "hull", "goole", "selby"], ["leeds", "east", "", "YORK", "yor"] + NO_TEXTS)

    def test_a_load_from_a_place_to_itself(self):
        self.check(True, (15, 500, "load", "cow", 40, "york", "york"))

    def test_gates_and_places_that_other_roads_have(self):
        none, other = Roads([]), Roads([("a", "b", ("k",))])
        for word in ("bid", "under", "anew", "shut", "table", "load", "taken"):
            self.check(False, ENTRIES[word], roads=none)
            self.check(False, ENTRIES[word], roads=other)
        for word in ("let", "fail", "free"):
            self.check(True, ENTRIES[word], roads=none)
        self.check(True, (1, 0, "load", "cow", 1, "a", "b"), (1, 0, "taken", "k", 1), roads=other)

    def test_pence(self):
        self.check_parts(PENCE, [1, 10 ** 6], [-1, 10 ** 6 + 1, 10 ** 30] + NO_NUMBERS)
        for word in ("under", "anew", "taken"):
            self.check(True, with_part(ENTRIES[word], PENCE[word][0], 0))

    def test_a_bids_pence_are_from_1(self):
        self.check(False, with_part(ENTRIES["bid"], 7, 0))
        self.check(True, with_part(ENTRIES["bid"], 7, 1))

    def test_units(self):
        self.check_parts({"load": [4]}, [0, 1, 10 ** 9], [-1, 10 ** 9 + 1, 10 ** 30] + NO_NUMBERS)

    def test_a_bids_gates(self):
        def bid(first, last):
            return (7, 0, "bid", 1, "ann", first, last, 900, ())
        self.check(True, bid("east", "west"), bid("east", "mid"), bid("mid", "mid"), bid("quay", "quay"))
        self.check(False, bid("west", "east"), bid("mid", "east"), bid("east", "quay"), bid("quay", "west"))
        self.check(False, bid("north", "west"), bid("east", "north"), bid("north", "north"), bid("york", "york"))

    def test_a_bids_year_may_be_any(self):
        for day, year in itertools.product((0, 400, 3639), (0, 1, 9)):
            self.check(True, (7, day, "bid", year, "ann", "mid", "mid", 1, ()), (7, day, "let", year))

    def test_sureties(self):
        for word, at in (("bid", 8), ("anew", 7)):
            entry = ENTRIES[word]
            own = {"bid": "ann", "anew": "fay"}[word]
            if word == "anew":
                entry = with_part(entry, 3, own)
            self.check(True, *[with_part(entry, at, FOUR[:many]) for many in range(5)])
            self.check(True, with_part(entry, at, FOUR[::-1]))
            five = FOUR + (("gus", 1),)
            twice = (("bob", 1), ("cat", 1), ("bob", 2))
            self.check(False, *[with_part(entry, at, bad) for bad in (five, twice, twice[::-1], twice[:1] * 2)])
            for many in range(4):
                self.check(False, with_part(entry, at, FOUR[:many] + ((own, 1),)))
                self.check(False, with_part(entry, at, ((own, 1),) + FOUR[:many]))

    def test_weights(self):
        for word in SURETIES:
            at = SURETIES[word][0]
            for weight in (1, 2, 98, 99):
                self.check(True, with_part(ENTRIES[word], at, (("bob", weight),)))
                self.check(True, with_part(ENTRIES[word], at, (("cat", 1), ("bob", weight))))
            for weight in [0, 100, -1, 10 ** 30] + NO_NUMBERS:
                self.check(False, with_part(ENTRIES[word], at, (("bob", weight),)))
                self.check(False, with_part(ENTRIES[word], at, (("cat", 1), ("bob", weight))))

    def test_sureties_names(self):
        for word in SURETIES:
            for name in ["", "Bob", "abcdefghi", "TRUST", "b b"] + NO_TEXTS:
                self.check(False, with_part(ENTRIES[word], SURETIES[word][0], ((name, 1),)))
                self.check(False, with_part(ENTRIES[word], SURETIES[word][0], (("cat", 1), (name, 1))))

    def test_sureties_that_are_none(self):
        for word in SURETIES:
            for bad in (None, [], "", 0, True, "bob", ("bob", 1), [("bob", 1)], (["bob", 1],), (("bob",),), ((),),
                        (("bob", 1, 1),), (("bob", 1), None), (None,), ("b1",), (1, 2), deep(1, tuple), deep("a", list)):
                self.check(False, with_part(ENTRIES[word], SURETIES[word][0], bad))

    def test_giver_and_taker_unlike(self):
        self.check(False, (9, 400, "under", "ann", "ann", "mid", 410, 500, 30))
        self.check(False, (9, 400, "under", "TRUST", "ann", "mid", 410, 500, 30))
        self.check(False, (9, 400, "under", "ann", "TRUST", "mid", 410, 500, 30))

    def spans(self, word, day, first, last):
        at = SPANS[word]
        entry = with_part(ENTRIES[word], 1, day)
        return with_part(with_part(entry, at, first), at + 1, last)

    def test_first_and_last(self):
        for word in SPANS:
            for good in ((0, 0, 0), (0, 0, 3639), (3639, 3639, 3639), (5, 5, 5), (5, 5, 6), (5, 6, 6), (5, 3639, 3639)):
                self.check(True, self.spans(word, *good))
            for bad in ((5, 7, 6), (5, 4, 9), (5, 4, 4), (5, 6, 4), (5, 9, 3640), (0, 3640, 3640), (0, -1, 5),
                        (0, 3639, 0), (3639, 3638, 3639), (0, 0, -1), (0, -1, -1), (1, 0, 0)):
                self.check(False, self.spans(word, *bad))
            for bad in NO_NUMBERS:
                self.check(False, self.spans(word, 0, bad, 5), self.spans(word, 0, 0, bad), self.spans(word, 0, bad, bad))

    def test_the_last_of_an_anew_entry(self):
        def anew(day, last):
            return (10, day, "anew", "dan", "quay", last, 12, ())
        for day, last in ((0, 0), (0, 363), (363, 363), (364, 364), (364, 727), (400, 500), (3639, 3639), (3276, 3639)):
            self.check(True, anew(day, last))
        for day, last in ((0, 364), (363, 364), (364, 363), (364, 728), (400, 399), (400, 364), (1, 0), (3639, 3640),
                          (3639, 3638), (3276, 3640), (0, -1), (400, 40), (0, 3639)):
            self.check(False, anew(day, last))
        self.check(False, *[anew(0, last) for last in NO_NUMBERS])

    def test_tables(self):
        for table in ((), TABLE, TABLE[:1] * 8):
            self.check(True, with_part(ENTRIES["table"], 4, table))
        for bad in (TABLE[:1] * 9, list(TABLE), (list(TABLE[0]),), TABLE[0], None, "-", "", [], ((),), (None,), 0, True,
                    (("Cow", 0, None, 2, 1, 1),), (("cow", 0, None, 2, 1, 0),), (("cow", 5, 4, 2, 1, 1),),
                    (("cow", False, None, 2, 1, 1),)):
            self.check(False, with_part(ENTRIES["table"], 4, bad))

    def test_what_is_handed_in_stays(self):
        thing = [7, 0, ["bid", [1]]]
        rows = ROADS.rows()
        is_entry(ROADS, thing)
        self.assertEqual(thing, [7, 0, ["bid", [1]]])
        self.assertEqual(ROADS.rows(), rows)

    def test_arguments_by_their_names(self):
        self.assertIs(is_entry(roads=ROADS, thing=ENTRIES["bid"]), True)
        self.assertIs(is_entry(thing=None, roads=ROADS), False)


class InOrder(unittest.TestCase):
    def test_by_days_and_of_one_day_by_numbers(self):
        entries = [(5, 9, "let", 1), (1, 9, "let", 2), (9, 0, "fail", "ann"), (2, 10, "let", 3), (10, 9, "let", 4)]
        expected = [entries[2], entries[1], entries[0], entries[4], entries[3]]
        for order in itertools.permutations(entries):
            self.assertEqual(in_order(list(order)), expected)

    def test_numbers_not_texts(self):
        entries = [(10, 9, "let", 1), (9, 10, "let", 1), (9999, 2, "let", 1), (2, 100, "let", 1)]
        self.assertEqual([entry[1] for entry in in_order(entries)], [2, 9, 10, 100])

    def test_of_none(self):
        self.assertEqual(in_order([]), [])

    def test_a_hundred(self):
        chance = random.Random(84)
        for _ in range(20):
            entries = some_log(chance, 100)
            told = in_order(entries)
            self.assertEqual(sorted(told), sorted(entries, key=lambda entry: entry[0]))
            places = [(day, number) for number, day, *rest in told]
            self.assertEqual(places, sorted(places))
            self.assertEqual(in_order(told), told)

    def test_the_list_handed_in_stays(self):
        entries = [(5, 9, "let", 1), (1, 9, "let", 2)]
        in_order(entries)
        self.assertEqual(entries, [(5, 9, "let", 1), (1, 9, "let", 2)])

    def test_the_told_list_is_the_askers_own(self):
        for entries in ([], [(5, 9, "let", 1)], [(5, 9, "let", 1), (6, 9, "let", 2)]):
            kept = list(entries)
            told, again = in_order(entries), in_order(entries)
            self.assertIsNot(told, entries)
            self.assertIsNot(told, again)
            told.append(None)
            self.assertEqual((entries, again, in_order(entries)), (kept, kept, kept))
            entries.clear()
            self.assertEqual(again, kept)

    def test_the_argument_by_its_name(self):
        self.assertEqual(in_order(entries=[(2, 5, "let", 1), (1, 5, "let", 1)]), [(1, 5, "let", 1), (2, 5, "let", 1)])


class ShutDays(unittest.TestCase):
    def check(self, entries, gate, spans):
        told = shut_days(entries, gate)
        self.assertIsInstance(told, Days)
        self.assertEqual(told.spans(), spans)

    def test_of_no_entries_and_no_shut_entry(self):
        self.check([], "east", [])
        self.check([entry for word, entry in ENTRIES.items() if word != "shut"], "east", [])

    def test_one(self):
        self.check([(1, 0, "shut", "east", 3, 7)], "east", [(3, 7)])
        self.check([(1, 0, "shut", "east", 0, 3639)], "east", [(0, 3639)])
        self.check([(1, 3639, "shut", "east", 3639, 3639)], "east", [(3639, 3639)])

    def test_the_days_shut_not_the_entrys_day(self):
        self.check([(1, 2, "shut", "east", 5, 6)], "east", [(5, 6)])

    def test_several(self):
        entries = [(1, 0, "shut", "east", 20, 30), (2, 0, "shut", "east", 3, 7), (3, 0, "shut", "east", 9, 9)]
        for order in itertools.permutations(entries):
            self.check(list(order), "east", [(3, 7), (9, 9), (20, 30)])

    def test_several_that_overlap_touch_and_are_the_same(self):
        entries = [(1, 0, "shut", "east", 3, 7), (2, 0, "shut", "east", 5, 12), (3, 0, "shut", "east", 13, 14),
                   (4, 0, "shut", "east", 3, 7), (5, 0, "shut", "east", 4, 4)]
        self.check(entries, "east", [(3, 14)])

    def test_another_gates(self):
        entries = [(1, 0, "shut", "east", 3, 7), (2, 0, "shut", "west", 5, 12), (3, 0, "shut", "quay", 0, 1)]
        self.check(entries, "east", [(3, 7)])
        self.check(entries, "west", [(5, 12)])
        self.check(entries, "mid", [])

    def test_other_words_among_them(self):
        entries = [*ENTRIES.values(), (20, 0, "free", "quay", 100, 200), (21, 0, "shut", "quay", 23, 40)]
        self.check(entries, "quay", [(20, 40)])
        self.check(entries, "east", [])

    def test_a_hundred(self):
        entries = [(at + 1, 0, "shut", "east", 36 * at, 36 * at + 5) for at in range(100)]
        self.check(entries[::-1], "east", [(36 * at, 36 * at + 5) for at in range(100)])

    def test_the_list_handed_in_stays_and_isnt_kept(self):
        entries = [(2, 0, "shut", "east", 5, 6), (1, 0, "shut", "east", 3, 7)]
        kept = list(entries)
        told = shut_days(entries, "east")
        self.assertEqual(entries, kept)
        entries.clear()
        told.spans().clear()
        self.assertEqual(told.spans(), [(3, 7)])

    def test_arguments_by_their_names(self):
        self.assertEqual(len(shut_days(entries=[(1, 0, "shut", "east", 3, 7)], gate="east")), 5)


class ShutOn(unittest.TestCase):
    def test_days(self):
        entries = [(1, 2, "shut", "east", 3, 7), (2, 0, "shut", "west", 7, 7), (3, 0, "free", "mid", 0, 9)]
        for day, gates in ((2, []), (3, ["east"]), (6, ["east"]), (7, ["east", "west"]), (8, [])):
            self.assertEqual(shut_on(entries, day), gates)

    def test_as_the_shut_days_of_gates(self):
        chance = random.Random(85)
        entries = some_log(chance, 100)
        for day in range(0, 3640, 7):
            gates = [gate for gate in ROADS.gates() if shut_days(entries, gate).has(day)]
            self.assertEqual(sorted(set(shut_on(entries, day))), gates)


if __name__ == "__main__":
    unittest.main()
