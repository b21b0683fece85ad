import random
import re
import unittest

from lettolls.entries import is_entry
from lettolls.errors import BadRow, Twice
from lettolls.roads import Roads
from lettolls.rolls import entry_text, read_roll, roll_text
from lettolls.tables import table_in, table_text
from logs import ENTRIES, FOUR, ROADS, TEXTS, some_entry, some_log

NUMBER, NAME = "(?:0|[1-9][0-9]*)", "[a-z]+"
SHAPES = {
    "bid": f"{NUMBER} {NAME} {NAME} {NAME} {NUMBER}(?: {NAME} {NUMBER})*",
    "let": NUMBER,
    "under": f"{NAME} {NAME} {NAME} {NUMBER} {NUMBER} {NUMBER}",
    "anew": f"{NAME} {NAME} {NUMBER} {NUMBER}(?: {NAME} {NUMBER})*",
    "fail": NAME,
    "shut": f"{NAME} {NUMBER} {NUMBER}",
    "free": f"{NAME} {NUMBER} {NUMBER}",
    "load": f"{NAME} {NUMBER} {NAME} {NAME}",
    "taken": f"{NAME} {NUMBER}",
}


def value_of(word):
    return int(word) if word.isdigit() else word


def told_by_the_document(row):
    """The entry of a row as the document writes it, None of others: reckoned without lettolls.rolls."""
    found = re.fullmatch(f"({NUMBER}) ({NUMBER}) table ({NAME}) (.*)", row)
    if found is not None:
        number, day, gate, text = found.groups()
        entry = (int(number), int(day), "table", gate, table_in(text))
        return entry if is_entry(ROADS, entry) else None
    for word, shape in SHAPES.items():
        if re.fullmatch(f"{NUMBER} {NUMBER} {word} {shape}", row):
            parts = [value_of(part) for part in row.split(" ")]
            if word in ("bid", "anew"):
                cut = {"bid": 8, "anew": 7}[word]
                parts[cut:] = [tuple(zip(parts[cut::2], parts[cut + 1::2]))]
            return tuple(parts) if is_entry(ROADS, tuple(parts)) else None
    return None


class Texts(unittest.TestCase):
    def test_the_documents_own(self):
        self.assertEqual(entry_text((7, 0, "bid", 1, "ann", "east", "west", 900, (("bob", 2),))),
                         "7 0 bid 1 ann east west 900 bob 2")
        self.assertEqual(entry_text((12, 30, "table", "east", (("cow", 0, None, 2, 1, 1), ("", 0, 9, 5, 0, 1)))),
                         "12 30 table east cow 0 - 2 1 1 ; * 0 9 5 0 1")

    def test_each_word(self):
        for word, entry in ENTRIES.items():
            self.assertEqual(entry_text(entry), TEXTS[word])

    def test_sureties_none_and_four(self):
        self.assertEqual(entry_text((7, 0, "bid", 1, "ann", "east", "west", 900, ())), "7 0 bid 1 ann east west 900")
        self.assertEqual(entry_text((7, 0, "bid", 1, "ann", "east", "west", 900, FOUR)),
                         "7 0 bid 1 ann east west 900 bob 1 cat 99 dan 2 eve 1")
        self.assertEqual(entry_text((7, 0, "anew", "ann", "east", 9, 0, ())), "7 0 anew ann east 9 0")
        self.assertEqual(entry_text((7, 0, "anew", "ann", "east", 9, 0, FOUR)),
                         "7 0 anew ann east 9 0 bob 1 cat 99 dan 2 eve 1")

    def test_a_table_of_no_rows_and_of_eight(self):
        self.assertEqual(entry_text((1, 0, "table", "east", ())), "1 0 table east -")
        eight = (("cow", 0, None, 2, 1, 1),) * 8
        self.assertEqual(entry_text((1, 0, "table", "east", eight)), "1 0 table east " + table_text(eight))

    def test_roll_text(self):
        entries = list(ENTRIES.values())
        self.assertEqual(roll_text(entries), "\n".join(TEXTS.values()))
        self.assertEqual(roll_text(entries[::-1]), "\n".join(list(TEXTS.values())[::-1]))
        self.assertEqual(roll_text(entries[:1]), TEXTS["bid"])
        self.assertEqual(roll_text([]), "")

    def test_in_the_lists_order_not_the_logs(self):
        self.assertEqual(roll_text([(2, 9, "let", 1), (1, 5, "let", 2)]), "2 9 let 1\n1 5 let 2")

    def test_what_is_handed_in_stays(self):
        entries = list(ENTRIES.values())[::-1]
        roll_text(entries)
        self.assertEqual(entries, list(ENTRIES.values())[::-1])

    def test_arguments_by_their_names(self):
        self.assertEqual(entry_text(entry=ENTRIES["let"]), TEXTS["let"])
        self.assertEqual(roll_text(entries=[ENTRIES["let"]]), TEXTS["let"])


class Read(unittest.TestCase):
    def check(self, text, *entries):
        told = read_roll(ROADS, text)
        self.assertIs(type(told), list)
        self.assertEqual(told, list(entries))
        for entry in told:
            self.assertIs(is_entry(ROADS, entry), True)

    def test_each_word(self):
        for word, text in TEXTS.items():
            self.check(text, ENTRIES[word])

    def test_several_in_their_rows_order(self):
        self.check("\n".join(TEXTS.values()), *ENTRIES.values())
        self.check("\n".join(list(TEXTS.values())[::-1]), *list(ENTRIES.values())[::-1])

    def test_the_empty_text_and_empty_rows_alone(self):
        for text in ("", "\n", "\n\n\n", "\n" * 199):
            self.check(text)

    def test_empty_rows_anywhere(self):
        one, other = TEXTS["let"], TEXTS["fail"]
        for text in (f"\n{one}\n{other}", f"{one}\n{other}\n", f"{one}\n\n{other}", f"\n\n{one}\n\n\n{other}\n\n"):
            self.check(text, ENTRIES["let"], ENTRIES["fail"])

    def test_sureties_none_and_four(self):
        for sureties in (FOUR[:many] for many in range(5)):
            for entry in ((7, 0, "bid", 1, "ann", "east", "west", 900, sureties),
                          (7, 0, "anew", "ann", "east", 9, 0, sureties)):
                self.check(entry_text(entry), entry)

    def test_a_table_of_no_rows_and_of_eight(self):
        for rows in ((), (("cow", 0, None, 2, 1, 1),) * 8, (("abcdefgh", 10 ** 9, 10 ** 9, 10 ** 6, 10 ** 6, 12),) * 8):
            entry = (1, 0, "table", "east", rows)
            self.check(entry_text(entry), entry)

    def test_numbers_at_their_bounds(self):
        self.check("1 0 load cow 0 york york\n9999 3639 load cow 1000000000 york york",
                   (1, 0, "load", "cow", 0, "york", "york"), (9999, 3639, "load", "cow", 10 ** 9, "york", "york"))
        self.check("1 0 taken mid 0\n2 0 taken mid 1000000", (1, 0, "taken", "mid", 0), (2, 0, "taken", "mid", 10 ** 6))
        self.check("1 0 bid 0 ann mid mid 1 bob 1\n2 0 bid 9 ann mid mid 1000000 bob 99",
                   (1, 0, "bid", 0, "ann", "mid", "mid", 1, (("bob", 1),)),
                   (2, 0, "bid", 9, "ann", "mid", "mid", 10 ** 6, (("bob", 99),)))

    def test_names_like_words(self):
        roads = Roads([("road", "bid", ("table", "shut"))])
        for entry in ((1, 0, "table", "table", ()), (1, 0, "bid", 0, "bid", "table", "shut", 1, (("let", 1),)),
                      (1, 0, "fail", "table"), (1, 0, "load", "load", 1, "bid", "road")):
            self.assertEqual(read_roll(roads, entry_text(entry)), [entry])

    def test_reads_back_what_roll_text_tells(self):
        chance = random.Random(91)
        for _ in range(30):
            entries = some_log(chance, chance.choice([0, 1, 5, 20]))
            self.check(roll_text(entries), *entries)

    def test_a_hundred_entries(self):
        chance = random.Random(92)
        entries = some_log(chance, 100)
        self.check(roll_text(entries), *entries)
        self.check(roll_text(entries).replace("\n", "\n\n"), *entries)

    def test_told_lists_are_the_askers_own(self):
        for text, kept in (("", []), (TEXTS["let"], [ENTRIES["let"]])):
            told, again = read_roll(ROADS, text), read_roll(ROADS, text)
            self.assertIsNot(told, again)
            told.append(None)
            self.assertEqual(again, kept)
            self.assertEqual(read_roll(ROADS, text), kept)

    def test_arguments_by_their_names(self):
        self.assertEqual(read_roll(roads=ROADS, text="8 300 let 1"), [(8, 300, "let", 1)])
        self.assertEqual(read_roll(text="8 300 let 1", roads=ROADS), [(8, 300, "let", 1)])


class Refused(unittest.TestCase):
    def check(self, row, *texts, roads=ROADS):
        for text in texts:
            with self.subTest(text=text):
                with self.assertRaises(BadRow) as caught:
                    read_roll(roads, text)
                self.assertEqual(caught.exception.row, row)

    def check_row(self, *bad):
        """The bad row alone, behind others and empty ones, and ahead of others."""
        for row in bad:
            self.check(0, row, row + "\n", row + "\n100 5 let 1", row + "\n" + row)
            self.check(1, "100 5 let 1\n" + row, "\n" + row, "\n" + row + "\n100 5 let 1")
            self.check(3, "\n100 5 let 1\n\n" + row, "100 5 let 1\n\n\n" + row + "\n\nno")

    def check_twice(self, number, *texts):
        for text in texts:
            with self.subTest(text=text):
                with self.assertRaises(Twice) as caught:
                    read_roll(ROADS, text)
                self.assertEqual(caught.exception.number, number)

    def test_a_blank_too_many_or_too_few(self):
        for text in TEXTS.values():
            self.check_row(" " + text, text + " ")
            for at in [at for at, sign in enumerate(text) if sign == " "]:
                self.check_row(text[:at] + " " + text[at:], text[:at] + text[at + 1:])
        self.check_row(" ", "  ")

    def test_noughts_ahead(self):
        for text in TEXTS.values():
            words = text.split(" ")
            for at in [at for at, word in enumerate(words) if word.isdigit()]:
                self.check_row(" ".join(words[:at] + ["0" + words[at]] + words[at + 1:]))
        self.check_row("1 00 let 1", "1 0 let 00", "0001 0 let 1", "1 0 bid 1 ann mid mid 9 bob 02")

    def test_other_numbers(self):
        for word in ("+1", "-1", "1.0", "1_0", "0x1", "one", "\u0661", "\u00b9", "", "1a", "-", "9" * 500):
            self.check_row(f"{word} 0 let 1", f"1 {word} let 1", f"1 0 let {word}", f"1 0 taken mid {word}",
                           f"1 0 bid 1 ann mid mid {word}", f"1 0 bid 1 ann mid mid 5 bob {word}")

    def test_numbers_beyond_their_bounds(self):
        self.check_row("0 0 let 1", "10000 0 let 1", "1 3640 let 1", "1 0 let 10", "1 0 taken mid 1000001",
                       "1 0 bid 1 ann mid mid 0", "1 0 bid 1 ann mid mid 1000001", "1 0 load cow 1000000001 york hull",
                       "1 0 bid 1 ann mid mid 5 bob 0", "1 0 bid 1 ann mid mid 5 bob 100", "1 0 shut mid 0 3640",
                       "1 0 bid 10 ann mid mid 5", "1 0 anew ann mid 364 5", "1 0 table mid cow 0 - 1 1 13")

    def test_another_word(self):
        self.check_row("1 0 lets 1", "1 0 Let 1", "1 0 toll 1", "1 0 road york hull", "1 0 1", "1 0", "1", "let",
                       "let 1", "1 let 1", "1 0 0 let 1", "road york hull", "strike 1", "undo", "-")

    def test_a_part_left_out(self):
        for text in TEXTS.values():
            words = text.split(" ")
            for at in range(len(words)):
                self.check_row(" ".join(words[:at] + words[at + 1:]))

    def test_a_part_twice(self):
        for text in TEXTS.values():
            words = text.split(" ")
            for at in range(len(words)):
                self.check_row(" ".join(words[:at + 1] + words[at:]))

    def test_parts_exchanged(self):
        self.check_row("0 7 bid 1 ann east west 900 bob 2", "7 0 bid ann 1 east west 900 bob 2",
                       "7 0 bid 1 east ann west 900 bob 2", "7 0 bid 1 ann west east 900 bob 2",
                       "7 0 bid 1 ann east 900 west bob 2", "7 0 bid 1 ann east west bob 2 900",
                       "7 0 bid 1 ann east west 900 2 bob", "8 let 300 1", "let 8 300 1", "8 300 1 let",
                       "9 400 under mid cat ann 410 500 30", "9 400 under ann cat mid 500 410 30",
                       "9 400 under ann cat 410 mid 500 30", "12 20 shut 20 25 quay", "12 20 shut quay 25 20",
                       "13 30 table cow 0 - 2 1 1 east", "15 500 load 40 cow york goole", "16 500 taken 42 mid",
                       "15 500 load cow york goole 40", "10 450 anew quay dan 727 12")

    def test_no_entry_of_roads(self):
        self.check_row("1 0 taken north 5", "1 0 shut york 5 9", "1 0 load cow 5 york leeds", "1 0 load cow 5 east york",
                       "1 0 bid 1 ann east quay 5", "1 0 bid 1 ann west east 5", "1 0 under ann ann mid 5 9 3",
                       "1 9 under ann bob mid 5 9 3", "1 0 under ann bob mid 9 5 3", "1 9 anew ann mid 8 5",
                       "1 0 bid 1 ann mid mid 5 ann 1", "1 0 bid 1 ann mid mid 5 bob 1 bob 2", "1 0 fail TRUST",
                       "1 0 bid 1 ann mid mid 5 bob 1 cat 1 dan 1 eve 1 fay 1", "1 0 fail abcdefghi",
                       "1 0 anew ann mid 5 5 ann 1", "1 0 free * 5 6", "1 0 load * 5 york hull")
        for word in ("bid", "under", "anew", "shut", "table", "load", "taken"):
            self.check(0, TEXTS[word], roads=Roads([]))
            self.check(0, TEXTS[word], roads=Roads([("a", "b", ("k",))]))

    def test_sureties_not_so_written(self):
        self.check_row("1 0 bid 1 ann mid mid 5 bob", "1 0 bid 1 ann mid mid 5 bob 1 cat", "1 0 bid 1 ann mid mid 5 1",
                       "1 0 bid 1 ann mid mid 5 -", "1 0 bid 1 ann mid mid 5 bob 1 ; cat 1", "1 0 anew ann mid 5 5 bob",
                       "1 0 bid 1 ann mid mid 5 bob-1", "1 0 bid 1 ann mid mid 5 (bob 1)", "1 0 bid 1 ann mid mid 5 - -")

    def test_tables_not_so_written(self):
        self.check_row("1 0 table mid", "1 0 table mid ", "1 0 table mid *", "1 0 table mid - -", "1 0 table mid - ; -",
                       "1 0 table mid cow 0 - 1 1", "1 0 table mid cow 0 - 1 1 1 ;", "1 0 table mid ; cow 0 - 1 1 1",
                       "1 0 table mid cow 0 - 1 1 1 * 0 - 1 1 1", "1 0 table mid cow 5 4 1 1 1", "1 0 table -",
                       "1 0 table mid " + " ; ".join(["cow 0 - 1 1 1"] * 9), "1 0 table mid cow 0 x 1 1 1")

    def test_other_signs(self):
        self.check_row("8\t300 let 1", "8 300 let 1\r", "8 300 let 1;", "8 300 let 1 #", "\t", "8,300,let,1", "~",
                       "8 300 let\u00a01", "8 300 fail \u00e4", "11 430 fail Ann", "(8, 300, 'let', 1)")

    def test_the_first_row_that_cant_stand(self):
        self.check(1, "1 0 let 1\nno\n2 0 let\n", "1 0 let 1\n2 0 let\nno")
        self.check(0, "no\n1 0 let 1\nno")
        self.check(199, "\n" * 199 + "no")
        self.check(100, roll_text(some_log(random.Random(93), 100)) + "\n1")

    def test_one_number_twice(self):
        self.check_twice(8, "8 300 let 1\n8 300 let 1", "8 300 let 1\n8 0 fail ann", "8 300 let 1\n\n\n8 300 let 2\n",
                         "9 0 let 1\n8 300 let 1\n10 0 let 1\n8 300 let 2\n9 0 let 1")
        self.check_twice(9999, "1 0 let 1\n9999 0 let 1\n9999 1 let 1")
        self.check_twice(1, "1 0 let 1\n9999 0 let 1\n1 1 let 1\n9999 1 let 1")

    def test_a_number_twice_though_a_hundred_stand_between(self):
        entries = some_log(random.Random(94), 99)
        self.check_twice(entries[0][0], roll_text(entries) + f"\n{entries[0][0]} 0 let 1")

    def test_which_of_the_two_comes_by_the_first_row(self):
        self.check_twice(8, "8 300 let 1\n8 300 let 2\nno", "8 300 let 1\n\n8 300 let 2\n\nno\n")
        self.check(1, "8 300 let 1\nno\n8 300 let 2")
        self.check(2, "8 300 let 1\n\nno\n8 300 let 2")

    def test_a_row_that_is_no_entry_tells_no_number(self):
        # it isn't so written, whatever its number
        self.check(1, "8 300 let 1\n8 300 let", "8 300 let 1\n8 300 let 10", "8 300 let 1\n08 300 let 2")
        self.check(0, "8 300 let\n8 300 let 1\n8 300 let 1")

    def test_a_refusal_changes_nothing(self):
        self.check(1, "8 300 let 1\nno")
        self.check_twice(8, "8 300 let 1\n8 300 let 2")
        self.assertEqual(read_roll(ROADS, "8 300 let 1"), [(8, 300, "let", 1)])

    def test_one_sign_more_fewer_or_another(self):
        for text in TEXTS.values():
            for at in range(len(text) + 1):
                for sign in ["", *"019 -;*az"]:
                    for row in (text[:at] + sign + text[at:], text[:at] + sign + text[at + 1:]):
                        self.check_as_told(row)

    def check_as_told(self, row):
        expected = told_by_the_document(row)
        if expected is not None:
            self.assertEqual(read_roll(ROADS, row), [expected])
        elif row:
            self.check(0, row)

    def test_any_words_exchanged(self):
        chance = random.Random(95)
        for _ in range(1500):
            words = entry_text(some_entry(chance, chance.randint(1, 9999))).split(" ")[:12]
            at, other = chance.randrange(len(words)), chance.randrange(len(words))
            words[at], words[other] = words[other], words[at]
            self.check_as_told(" ".join(words))


if __name__ == "__main__":
    unittest.main()
