import random
import unittest

from lettolls.partings import are_alike, parting
from lettolls.tables import toll_of

FREE = ("", 0, None, 0, 0, 1)


def some_table(chance, top):
    rows = []
    for _ in range(chance.randint(0, 4)):
        least = chance.randint(0, top)
        most = chance.choice([None, chance.randint(least, top)])
        per = chance.choice([1, 2, 3, chance.randint(1, 12)])
        rows.append((chance.choice(["", "cow", "pig"]), least, most, chance.randint(0, 2), chance.randint(0, 2), per))
    return tuple(rows)


def first_unlike(one, other, top):
    """The least parted (units, kind) to so many units, by asking of each."""
    kinds = sorted({row[0] for row in one + other} | {""})
    for units in range(top + 1):
        for kind in kinds:
            if toll_of(one, kind, units) != toll_of(other, kind, units):
                return (units, kind)
    return None


class Partings(unittest.TestCase):
    def check(self, one, other, expected):
        for left, right in ((one, other), (other, one)):
            with self.subTest(left=left, right=right):
                told = parting(left, right)
                self.assertEqual(told, expected)
                self.assertIs(type(told), type(expected))
                self.assertIs(are_alike(left, right), expected is None)

    def test_the_same_table(self):
        for table in ((), (FREE,), (("cow", 2, 9, 5, 3, 4), ("", 0, None, 1, 1, 12))):
            self.check(table, table, None)

    def test_no_rows_and_rows_for_nothing(self):
        self.check((), (FREE,), None)
        self.check((), (("cow", 3, 8, 0, 0, 7), ("pig", 0, None, 0, 0, 2)), None)

    def test_alike_by_other_rows(self):
        self.check((("cow", 0, 9, 5, 0, 1),), (("cow", 0, 4, 5, 0, 1), ("cow", 5, 9, 5, 0, 1)), None)
        self.check((("cow", 0, 9, 5, 0, 1),), (("cow", 4, 9, 5, 0, 2), ("cow", 0, 6, 5, 0, 3)), None)
        self.check((("cow", 0, 9, 5, 0, 1), ("pig", 0, 9, 6, 0, 1)),
                   (("pig", 0, 9, 6, 0, 1), ("cow", 0, 9, 5, 0, 1)), None)
        self.check((("cow", 0, None, 5, 0, 1), ("", 0, None, 5, 0, 1)), (("", 0, None, 5, 0, 1),), None)

    def test_alike_by_rows_that_none_comes_to(self):
        self.check((("", 0, None, 5, 0, 1), ("cow", 0, 9, 7, 0, 1)), (("", 0, None, 5, 0, 1),), None)

    def test_alike_by_each_as_pence(self):
        self.check((("cow", 1, 3, 0, 2, 3),), (("cow", 1, 3, 2, 0, 1),), None)
        self.check((("cow", 4, 4, 0, 3, 2),), (("cow", 4, 4, 0, 6, 4),), None)
        self.check((("cow", 0, 0, 4, 9, 5),), (("cow", 0, 0, 4, 1, 1),), None)

    def test_parted_at_the_least_units(self):
        self.check((("cow", 0, None, 5, 0, 1),), (("cow", 0, None, 6, 0, 1),), (0, "cow"))
        self.check((("cow", 3, None, 5, 0, 1),), (("cow", 4, None, 5, 0, 1),), (3, "cow"))
        self.check((("cow", 0, 7, 5, 0, 1),), (("cow", 0, 8, 5, 0, 1),), (8, "cow"))
        self.check((("cow", 0, 7, 5, 0, 1),), (("cow", 0, None, 5, 0, 1),), (8, "cow"))
        self.check((("cow", 0, None, 5, 1, 1),), (("cow", 0, None, 5, 2, 1),), (1, "cow"))

    def test_units_go_ahead_of_kinds(self):
        self.check((("ant", 9, None, 1, 0, 1), ("zebra", 3, None, 1, 0, 1)), (), (3, "zebra"))
        self.check((("zebra", 3, None, 1, 0, 1), ("ant", 9, None, 1, 0, 1)), (), (3, "zebra"))
        # both are parted between the same edges
        self.check((("ant", 0, None, 0, 1, 4), ("zebra", 0, None, 0, 1, 2)),
                   (("ant", 0, None, 0, 1, 5), ("zebra", 0, None, 0, 1, 3)), (3, "zebra"))

    def test_of_the_same_units_the_least_kind(self):
        self.check((("pig", 3, None, 1, 0, 1), ("cow", 3, None, 1, 0, 1)), (), (3, "cow"))
        self.check((("pig", 3, None, 1, 0, 1),), (("cow", 3, None, 1, 0, 1),), (3, "cow"))
        self.check((("", 3, None, 1, 0, 1), ("cow", 3, None, 1, 0, 1)), (), (3, ""))

    def test_the_kind_that_none_names(self):
        self.check((("", 0, None, 1, 0, 1),), (), (0, ""))
        self.check((("cow", 0, None, 1, 0, 1), ("", 0, None, 2, 0, 1)), (("cow", 0, None, 1, 0, 1),), (0, ""))

    def test_a_kind_that_one_names_only(self):
        self.check((("cow", 0, None, 1, 0, 1), ("", 0, None, 2, 0, 1)), (("", 0, None, 2, 0, 1),), (0, "cow"))
        self.check((("cow", 5, 5, 1, 0, 1), ("", 0, None, 2, 0, 1)), (("", 0, None, 2, 0, 1),), (5, "cow"))

    def test_parted_by_per_alone(self):
        self.check((("cow", 0, None, 5, 1, 11),), (("cow", 0, None, 5, 1, 12),), (12, "cow"))
        self.check((("cow", 0, None, 5, 1, 1),), (("cow", 0, None, 5, 1, 2),), (2, "cow"))
        self.check((("cow", 0, 11, 5, 1, 11),), (("cow", 0, 11, 5, 1, 12),), None)
        self.check((("cow", 12, 12, 5, 1, 11),), (("cow", 12, 12, 5, 1, 12),), (12, "cow"))

    def test_parted_late_though_both_rise_alike(self):
        # 2 for each 4 and 1 for each 2: alike at 0, parted at 1
        self.check((("", 0, None, 0, 2, 4),), (("", 0, None, 0, 1, 2),), (1, ""))
        # from 3 to 4 they are alike, at 5 no longer
        self.check((("", 3, None, 0, 2, 4),), (("", 3, None, 0, 1, 2),), (5, ""))

    def test_parted_at_the_last_of_a_whole_turn(self):
        for per in range(2, 13):
            self.check((("", 1, None, 0, 1, per),), (("", 1, None, 1, 0, 1),), (per + 1, ""))

    def test_parted_by_each_and_per(self):
        for least in range(0, 150, 7):
            one = (("", least, None, 0, 12, 11),)
            other = (("", least, None, 0, 11, 10),)
            self.check(one, other, first_unlike(one, other, 400))

    def test_every_two_pers(self):
        for one_per in range(1, 13):
            for other_per in range(1, 13):
                for one_each, other_each in ((1, 1), (one_per, other_per), (1, 2)):
                    for least in (0, 5, 11):
                        one = (("", least, None, 7, one_each, one_per),)
                        start = -(-least // one_per) * one_each
                        like = -(-least // other_per) * other_each
                        pence = 7 + start - like
                        if pence >= 0:
                            other = (("", least, None, pence, other_each, other_per),)
                            self.check(one, other, first_unlike(one, other, 300))

    def test_parted_behind_all_bounds_only(self):
        one = (("cow", 0, 99, 5, 0, 1), ("cow", 100, None, 6, 0, 1))
        self.check(one, (("cow", 0, 99, 5, 0, 1), ("cow", 100, None, 7, 0, 1)), (100, "cow"))
        self.check(one, (("cow", 0, 99, 5, 0, 1),), (100, "cow"))
        self.check(one, (("cow", 0, 99, 5, 0, 1), ("cow", 100, 100, 6, 0, 1)), (101, "cow"))

    def test_parted_some_way_behind_all_bounds(self):
        one = (("cow", 0, 121, 5, 0, 1), ("cow", 0, None, 6, 1, 11))
        other = (("cow", 0, 121, 5, 0, 1), ("cow", 0, None, 7, 1, 12))
        self.check(one, other, (144, "cow"))

    def test_great_bounds(self):
        great = 10 ** 9
        self.check((("cow", great, great, 5, 0, 1),), (), (great, "cow"))
        self.check((("cow", 0, great, 5, 0, 1),), (("cow", 0, None, 5, 0, 1),), (great + 1, "cow"))
        self.check((("cow", 0, great, 5, 0, 1),), (("cow", 0, great - 1, 5, 0, 1),), (great, "cow"))
        self.check((("cow", great, None, 5, 10 ** 6, 12),), (("cow", great, None, 5, 10 ** 6, 12),), None)
        # great is 4 more than a multiple of 12: both rise by one at the next unit, then only one of them
        one = (("cow", great, None, 10 ** 6, 2, 4),)
        other = (("cow", great, None, 10 ** 6, 1, 2),)
        self.check(one, other, (great + 1, "cow"))

    def test_alike_over_great_spans(self):
        self.check((("", 0, 10 ** 9, 3, 2, 5), ("", 0, None, 1, 1, 1)),
                   (("cow", 0, 10 ** 9, 3, 2, 5), ("", 0, 10 ** 9, 3, 2, 5), ("", 5, None, 1, 1, 1)), None)

    def test_eight_rows_of_eight_kinds(self):
        kinds = ["a", "b", "c", "d", "e", "f", "g", "h"]
        one = tuple((kind, 10 * at, None, 1, 1, 11) for at, kind in enumerate(kinds))
        other = tuple((kind, 10 * at, None, 1, 1, 11) for at, kind in enumerate(kinds))
        self.check(one, other[::-1], None)
        self.check(one, other[:7] + (("h", 71, None, 1, 1, 11),), (70, "h"))
        self.check(one, tuple((kind * 2, 9, None, 1, 1, 12) for kind in kinds), (0, "a"))

    def test_any(self):
        chance = random.Random(31)
        alike = 0
        for _ in range(1500):
            one = some_table(chance, chance.choice([3, 12]))
            other = some_table(chance, chance.choice([3, 12]))
            expected = first_unlike(one, other, 12 + 160)
            alike += expected is None
            self.check(one, other, expected)
        self.assertGreater(alike, 20)

    def test_any_of_one_table_and_itself_but_for_a_number(self):
        chance = random.Random(32)
        for _ in range(800):
            one = some_table(chance, 12) + (("cow", 0, None, 1, 1, chance.randint(1, 12)),)
            at, part = chance.randrange(len(one)), chance.choice([3, 4, 5])
            row = list(one[at])
            row[part] = chance.randint(1, 12)
            other = one[:at] + (tuple(row),) + one[at + 1:]
            self.check(one, other, first_unlike(one, other, 12 + 160))

    def test_arguments_by_their_names(self):
        self.assertEqual(parting(one=(), other=(("", 2, None, 1, 0, 1),)), (2, ""))
        self.assertIs(are_alike(one=(), other=(("", 2, None, 1, 0, 1),)), False)
        self.assertIs(are_alike(other=(), one=()), True)

    def test_the_same_question_is_told_the_same(self):
        one, other = (("cow", 3, None, 5, 0, 1),), ()
        self.assertEqual(parting(one, other), parting(one, other))


if __name__ == "__main__":
    unittest.main()
