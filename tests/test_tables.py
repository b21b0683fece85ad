import itertools
import random
import re
import unittest

from lettolls.tables import is_table, table_in, table_text, toll_of
from things import THINGS, deep, some_thing, with_part

ROW = ("cow", 2, 9, 5, 3, 4)
ANY = ("", 0, None, 1, 0, 1)
TABLE = (("cow", 0, None, 2, 1, 1), ("", 0, 9, 5, 0, 1))


def some_row(chance):
    top = chance.choice([3, 30, 10 ** 9])
    least = chance.randint(0, top)
    most = chance.choice([None, least, chance.randint(least, top)])
    pence, each = chance.choice([0, 1, chance.randint(0, 10 ** 6)]), chance.choice([0, 1, 10 ** 6])
    return (chance.choice(["", "cow", "pig", "abcdefgh"]), least, most, pence, each, chance.randint(1, 12))


def some_table(chance, most=8):
    return tuple(some_row(chance) for _ in range(chance.randint(0, most)))


class IsTable(unittest.TestCase):
    def check(self, expected, *things):
        for thing in things:
            with self.subTest(thing=thing):
                self.assertIs(is_table(thing), expected)

    def check_part(self, at, good, bad):
        """A part of a row, alone and in a row behind others."""
        for expected, parts in ((True, good), (False, bad)):
            for part in parts:
                row = with_part(ROW, at, part)
                self.check(expected, (row,), (ANY, row), (row, ANY), (ANY,) * 7 + (row,))

    def test_tables(self):
        self.check(True, (), (ROW,), (ANY,), TABLE, (ROW, ROW))

    def test_any_tables(self):
        chance = random.Random(21)
        for _ in range(200):
            self.check(True, some_table(chance))

    def test_eight_and_nine_rows(self):
        self.check(True, (ROW,) * 8)
        self.check(False, (ROW,) * 9, (ANY,) * 20)

    def test_lists_for_tuples(self):
        self.check(False, [], [ROW], [list(ROW)], (list(ROW),), (ROW, list(ROW)), [ROW, ROW])

    def test_rows_with_too_few_and_too_many_parts(self):
        self.check(False, ((),), (ROW[:5],), (ROW + (1,),), (ROW, ROW[1:]), ROW, (ROW + ROW,))

    def test_rows_that_are_no_tuples(self):
        self.check(False, (None,), (1,), ("cow",), ("abcdef",), (ROW, None), (True,), ("",), (ROW, ()))

    def test_kind(self):
        self.check_part(0, ["", "a", "z", "abcdefgh", "zzzzzzzz"],
                        ["abcdefghi", "A", "Cow", "c1", "c w", " ", "*", "-", "TRUST", "c\n", "\n", "\u00e4", 0, 1, None,
                         True, False, [], (), ["cow"], ("cow",), deep("a", list), ("c", "o", "w"), ["c", "o", "w"]])

    def test_least(self):
        self.check_part(1, [0, 1, 9], [10, -1, 10 ** 9, True, False, None, "2", "", [], (), [2], (2,)])

    def test_least_without_an_end(self):
        for least, expected in ((0, True), (10 ** 9, True), (10 ** 9 + 1, False), (-1, False), (None, False),
                                (True, False), (False, False)):
            self.check(expected, (("cow", least, None, 1, 1, 1),))

    def test_most(self):
        self.check_part(2, [2, 3, 10 ** 9, None], [1, 0, -1, 10 ** 9 + 1, 10 ** 30, True, False, "9", "-", "", [], (),
                                                   [9], (9,)])

    def test_least_and_most_at_both_ends(self):
        self.check(True, (("", 0, 0, 0, 0, 1),), (("", 10 ** 9, 10 ** 9, 0, 0, 1),), (("", 0, 10 ** 9, 0, 0, 1),))
        self.check(False, (("", 0, False, 0, 0, 1),), (("", 0, True, 0, 0, 1),), (("", 1, True, 0, 0, 1),),
                   (("", 10 ** 9 + 1, 10 ** 9 + 1, 0, 0, 1),))

    def test_pence_and_each(self):
        for at in (3, 4):
            self.check_part(at, [0, 1, 10 ** 6], [-1, 10 ** 6 + 1, 10 ** 30, True, False, None, "5", "", [], (), [5]])

    def test_per(self):
        self.check_part(5, list(range(1, 13)), [0, 13, -1, 10 ** 9, True, False, None, "4", "", [], (), [4], (4,)])

    def test_things_that_are_no_tuple_at_all(self):
        for thing in THINGS:
            self.check(thing == () and isinstance(thing, tuple), thing)

    def test_any_things(self):
        chance = random.Random(22)
        for _ in range(2000):
            thing = some_thing(chance)
            self.check(thing == () and isinstance(thing, tuple), thing)

    def test_any_thing_as_a_part(self):
        chance = random.Random(23)
        for _ in range(2000):
            part = some_thing(chance)
            for at in range(6):
                self.assertIn(is_table((with_part(ROW, at, part),)), (True, False))

    def test_what_is_handed_in_stays(self):
        thing = [ROW, [1, [2]]]
        is_table(thing)
        self.assertEqual(thing, [ROW, [1, [2]]])


def reckoned(table, kind, units):
    """The toll, reckoned without the program."""
    for named, least, most, pence, each, per in table:
        within = units >= least if most is None else units in range(least, most + 1)
        if named in ("", kind) and within:
            whole, left = divmod(units, per)
            return pence + each * (whole + 1 if left else whole)
    return 0


class TollOf(unittest.TestCase):
    def test_no_rows(self):
        for kind, units in itertools.product(["", "cow"], [0, 1, 10 ** 30]):
            self.assertEqual(toll_of((), kind, units), 0)

    def test_the_least_and_the_most_of_a_row(self):
        self.assertEqual([toll_of((("cow", 3, 5, 7, 0, 1),), "cow", units) for units in range(8)],
                         [0, 0, 0, 7, 7, 7, 0, 0])
        self.assertEqual([toll_of((("", 4, 4, 7, 0, 1),), "cow", units) for units in range(7)],
                         [0, 0, 0, 0, 7, 0, 0])

    def test_the_greatest_bounds(self):
        table = (("cow", 10 ** 9, 10 ** 9, 7, 0, 1),)
        self.assertEqual([toll_of(table, "cow", 10 ** 9 + more) for more in (-1, 0, 1)], [0, 7, 0])

    def test_no_end(self):
        table = (("cow", 3, None, 7, 0, 1),)
        self.assertEqual([toll_of(table, "cow", units) for units in (0, 2, 3, 4, 10 ** 9, 10 ** 9 + 1, 10 ** 40)],
                         [0, 0, 7, 7, 7, 7, 7])

    def test_the_first_row_that_has_the_load(self):
        table = (("cow", 5, 9, 1, 0, 1), ("cow", 0, 6, 2, 0, 1), ("", 0, None, 3, 0, 1), ("pig", 0, None, 4, 0, 1))
        self.assertEqual([toll_of(table, "cow", units) for units in range(12)], [2] * 5 + [1] * 5 + [3] * 2)
        self.assertEqual(toll_of(table, "pig", 5), 3)
        self.assertEqual(toll_of((table[3],) + table[:3], "pig", 5), 4)

    def test_a_row_for_nothing_goes_ahead_of_those_behind(self):
        table = (("cow", 2, 3, 0, 0, 1), ("", 0, None, 9, 0, 1))
        self.assertEqual([toll_of(table, "cow", units) for units in range(5)], [9, 9, 0, 0, 9])

    def test_no_row_of_this_kind(self):
        self.assertEqual(toll_of((("cow", 0, None, 7, 1, 1),), "pig", 5), 0)
        self.assertEqual(toll_of((("cow", 0, None, 7, 1, 1),), "co", 5), 0)
        self.assertEqual(toll_of((("co", 0, None, 7, 1, 1),), "cow", 5), 0)

    def test_the_kind_that_no_row_names(self):
        self.assertEqual(toll_of((("cow", 0, None, 7, 0, 1),), "", 5), 0)
        self.assertEqual(toll_of((("cow", 0, None, 7, 0, 1), ("", 0, 9, 8, 0, 1)), "", 5), 8)
        self.assertEqual(toll_of((("cow", 0, None, 7, 0, 1), ("", 0, 9, 8, 0, 1)), "", 10), 0)

    def test_units_over_per_rounded_up(self):
        table = (("", 0, None, 100, 10, 3),)
        self.assertEqual([toll_of(table, "cow", units) for units in range(8)],
                         [100, 110, 110, 110, 120, 120, 120, 130])
        for per in range(1, 13):
            for units in range(40):
                self.assertEqual(toll_of((("", 0, None, 0, 1, per),), "cow", units), -(-units // per))

    def test_of_no_units(self):
        self.assertEqual(toll_of((("", 0, None, 5, 7, 12),), "cow", 0), 5)

    def test_by_all_units_not_those_above_least(self):
        self.assertEqual(toll_of((("", 10, None, 0, 1, 4),), "cow", 10), 3)

    def test_units_far_beyond(self):
        units = 10 ** 18 + 1
        self.assertEqual(toll_of((("", 0, None, 1, 1, 2),), "", units), 5 * 10 ** 17 + 2)
        self.assertEqual(toll_of((("cow", 10 ** 9, None, 10 ** 6, 10 ** 6, 12),), "cow", 12 * 10 ** 60 + 1),
                         10 ** 6 + 10 ** 6 * (10 ** 60 + 1))
        self.assertEqual(toll_of((("cow", 0, 10 ** 9, 5, 5, 1),), "cow", 10 ** 50), 0)

    def test_any(self):
        chance = random.Random(24)
        for _ in range(500):
            table = some_table(chance)
            edges = [edge for row in table for edge in row[1:3] if edge is not None] + [0, chance.randint(0, 50)]
            units = max(0, chance.choice(edges) + chance.randint(-1, 1))
            for kind in ("", "cow", "pig", "abcdefgh", "hen"):
                self.assertEqual(toll_of(table, kind, units), reckoned(table, kind, units))

    def test_arguments_by_their_names(self):
        self.assertEqual(toll_of(table=TABLE, kind="cow", units=3), 5)
        self.assertEqual(toll_of(units=3, kind="cow", table=TABLE), 5)

    def test_the_same_question_is_told_the_same(self):
        self.assertEqual(toll_of(TABLE, "cow", 3), toll_of(TABLE, "cow", 3))


class TableText(unittest.TestCase):
    def test_no_rows(self):
        self.assertEqual(table_text(()), "-")

    def test_one_row(self):
        self.assertEqual(table_text((ROW,)), "cow 2 9 5 3 4")

    def test_any_kind_and_no_end(self):
        self.assertEqual(table_text((ANY,)), "* 0 - 1 0 1")

    def test_several_rows(self):
        self.assertEqual(table_text(TABLE), "cow 0 - 2 1 1 ; * 0 9 5 0 1")

    def test_numbers_at_their_bounds(self):
        self.assertEqual(table_text((("a", 0, 0, 0, 0, 1), ("abcdefgh", 10 ** 9, 10 ** 9, 10 ** 6, 10 ** 6, 12))),
                         "a 0 0 0 0 1 ; abcdefgh 1000000000 1000000000 1000000 1000000 12")

    def test_arguments_by_their_names(self):
        self.assertEqual(table_text(table=(ROW,)), "cow 2 9 5 3 4")
        self.assertEqual(table_in(text="cow 2 9 5 3 4"), (ROW,))


def told_by_the_document(text):
    """The table of a text as the document writes it, None of others: reckoned without the program."""
    if text == "-":
        return ()
    number = "(0|[1-9][0-9]*)"
    rows = []
    for part in text.split(" ; "):
        found = re.fullmatch(f"([a-z]{{1,8}}|[*]) {number} (-|{number}) {number} {number} {number}", part)
        if found is None:
            return None
        kind, least, most, _, pence, each, per = found.groups()
        end = None if most == "-" else int(most)
        row = ("" if kind == "*" else kind, int(least), end, int(pence), int(each), int(per))
        if row[1] > (10 ** 9 if end is None else end) or (end or 0) > 10 ** 9:
            return None
        if max(row[3], row[4]) > 10 ** 6 or not 1 <= row[5] <= 12:
            return None
        rows.append(row)
    return tuple(rows) if len(rows) <= 8 else None


class TableIn(unittest.TestCase):
    def check_none(self, *texts):
        for text in texts:
            with self.subTest(text=text):
                self.assertIsNone(table_in(text))
                self.assertIsNone(told_by_the_document(text))

    def test_some(self):
        self.assertEqual(table_in("-"), ())
        self.assertEqual(table_in("cow 2 9 5 3 4"), (ROW,))
        self.assertEqual(table_in("cow 0 - 2 1 1 ; * 0 9 5 0 1"), TABLE)
        self.assertEqual(table_in("* 1000000000 1000000000 1000000 1000000 12"),
                         (("", 10 ** 9, 10 ** 9, 10 ** 6, 10 ** 6, 12),))

    def test_kinds_of_what_is_told(self):
        self.assertIs(type(table_in("-")), tuple)
        self.assertIs(type(table_in("cow 2 9 5 3 4")), tuple)
        self.assertIs(type(table_in("cow 2 9 5 3 4")[0]), tuple)
        self.assertIs(is_table(table_in("cow 2 9 5 3 4")), True)

    def test_reads_back(self):
        chance = random.Random(25)
        for _ in range(300):
            table = some_table(chance)
            self.assertEqual(table_in(table_text(table)), table)

    def test_eight_and_nine_rows(self):
        self.assertEqual(table_in(" ; ".join(["cow 2 9 5 3 4"] * 8)), (ROW,) * 8)
        self.check_none(" ; ".join(["cow 2 9 5 3 4"] * 9), " ; ".join(["cow 2 9 5 3 4"] * 20))

    def test_noughts_ahead(self):
        self.check_none("cow 02 9 5 3 4", "cow 2 09 5 3 4", "cow 2 9 05 3 4", "cow 2 9 5 03 4", "cow 2 9 5 3 04",
                        "cow 00 9 5 3 4", "cow 2 9 00 3 4", "cow 2 9 5 3 4 ; cow 2 9 5 3 04")

    def test_numbers_beyond_their_bounds(self):
        self.check_none("cow 1000000001 - 5 3 4", "cow 0 1000000001 5 3 4", "cow 2 9 1000001 3 4",
                        "cow 2 9 5 1000001 4", "cow 2 9 5 3 13", "cow 2 9 5 3 0", "cow -1 9 5 3 4", "cow 2 9 -5 3 4",
                        "cow 2 9 5 -3 4", "cow 2 9 5 3 -4", "cow 2 -9 5 3 4", "cow -0 9 5 3 4", "cow 2 9 5 3 " + "9" * 500,
                        "cow 0 " + "9" * 500 + " 5 3 4", "cow " + "9" * 550 + " - 5 3 4")

    def test_least_above_most(self):
        self.check_none("cow 3 2 5 3 4", "cow 1 0 5 3 4", "* 1000000000 999999999 5 3 4")
        self.assertEqual(table_in("cow 2 2 5 3 4"), (("cow", 2, 2, 5, 3, 4),))

    def test_a_dash_stands_for_most_only(self):
        self.check_none("- 2 9 5 3 4", "cow - 9 5 3 4", "cow 2 9 - 3 4", "cow 2 9 5 - 4", "cow 2 9 5 3 -",
                        "cow 2 -- 5 3 4", "- ; -", "cow 2 9 5 3 4 ; -", "- ; cow 2 9 5 3 4", "--")

    def test_other_words_for_no_end(self):
        self.check_none("cow 2 x 5 3 4", "cow 2 * 5 3 4", "cow 2  5 3 4", "cow 2 None 5 3 4", "cow 2 +9 5 3 4",
                        "cow 2 9999999999 5 3 4", "cow 2 09 5 3 4")

    def test_blanks_too_many(self):
        self.check_none(" cow 2 9 5 3 4", "cow 2 9 5 3 4 ", "cow  2 9 5 3 4", "cow 2 9  5 3 4", " - ", "- ", " -",
                        "cow 2 9 5 3 4  ; cow 2 9 5 3 4", "cow 2 9 5 3 4 ;  cow 2 9 5 3 4", " ", "  ",
                        " 2 9 5 3 4", "  2 9 5 3 4", "cow 2 9 5 3 ")

    def test_blanks_too_few(self):
        self.check_none("cow 2 9 5 34", "cow2 9 5 3 4", "cow 2 9 5 3 4; cow 2 9 5 3 4", "cow 2 9 5 3 4 ;cow 2 9 5 3 4",
                        "cow 2 9 5 3 4;cow 2 9 5 3 4", "")

    def test_rows_missing(self):
        self.check_none("cow 2 9 5 3 4 ; ", " ; cow 2 9 5 3 4", "cow 2 9 5 3 4 ;", "; cow 2 9 5 3 4", ";", " ; ",
                        "cow 2 9 5 3 4 ;  ; cow 2 9 5 3 4", "cow 2 9 5 3 4 ; ; cow 2 9 5 3 4")

    def test_parts_too_few_and_too_many(self):
        self.check_none("cow", "cow 2 9 5 3", "cow 2 9 5 3 4 5", "2 9 5 3 4", "cow 2 9 5 3 4 cow 2 9 5 3 4", "*")

    def test_kinds_that_are_no_name(self):
        self.check_none("Cow 2 9 5 3 4", "abcdefghi 2 9 5 3 4", "c0 2 9 5 3 4", "** 2 9 5 3 4", "*a 2 9 5 3 4",
                        "\"\" 2 9 5 3 4", "1 2 9 5 3 4", "\u00e4 2 9 5 3 4")

    def test_other_signs(self):
        self.check_none("cow 2 9 5 3 4\n", "\ncow 2 9 5 3 4", "cow\t2 9 5 3 4", "cow 2 9 5 3 4 , cow 2 9 5 3 4",
                        "cow 2 9 5 3 4\n;\ncow 2 9 5 3 4", "cow +2 9 5 3 4", "cow 2 9 5 3 4.", "cow 2 9 5 3_0 4",
                        "cow 2 9 1_0 3 4", "cow 0x2 9 5 3 4", "cow 2.0 9 5 3 4", "cow a 9 5 3 4", "-\n", "~",
                        "cow 2 9 5 3 4 : * 0 9 5 0 1", "()", "cow\u00a02 9 5 3 4")

    def test_figures_that_are_not_0_to_9(self):
        self.check_none("cow 2 9 5 3 \u0664", "cow \u0662 9 5 3 4", "cow 2 \u0669 5 3 4", "cow 2 9 \u00b2 3 4",
                        "cow 2 9 5 \uff13 4", "cow 2 9 5 3 \u2463")

    def test_one_sign_more_fewer_or_another(self):
        for text in ("cow 0 - 2 1 1 ; * 0 9 5 0 1", "* 7 1000000000 1000000 0 12", "-"):
            for at in range(len(text) + 1):
                for sign in ["", *"0129 -;*ca\n"]:
                    for changed in (text[:at] + sign + text[at:], text[:at] + sign + text[at + 1:]):
                        self.assertEqual(table_in(changed), told_by_the_document(changed), changed)


if __name__ == "__main__":
    unittest.main()
