import itertools
import random
import re
import unittest

from lettolls.days import Days, days_in, quarter_of, quarter_span, runs_of, year_of, year_span

HUNDRED = [(36 * at, 36 * at + 5) for at in range(100)]


def days_of(spans):
    """The days of spans as a set, reckoned without the program."""
    return {day for first, last in spans for day in range(first, last + 1)}


def fewest(days):
    """The rising list of as few pairs as can be that have just these days."""
    firsts = sorted(day for day in days if day - 1 not in days)
    lasts = sorted(day for day in days if day + 1 not in days)
    return list(zip(firsts, lasts))


def some_spans(chance, top, many):
    spans = []
    for _ in range(chance.randint(0, many)):
        first = chance.randint(0, top)
        spans.append((first, min(top, first + chance.randint(0, 5))))
    return spans


class Spans(unittest.TestCase):
    def test_of_none(self):
        for none in (Days(), Days(None), Days([]), Days(spans=None), Days(spans=[])):
            self.assertEqual(none.spans(), [])

    def test_of_one_day(self):
        self.assertEqual(Days([(5, 5)]).spans(), [(5, 5)])

    def test_in_any_order(self):
        for order in itertools.permutations([(1, 2), (4, 6), (8, 8), (20, 30)]):
            self.assertEqual(Days(list(order)).spans(), [(1, 2), (4, 6), (8, 8), (20, 30)])

    def test_touching(self):
        self.assertEqual(Days([(1, 2), (3, 4)]).spans(), [(1, 4)])
        self.assertEqual(Days([(3, 4), (5, 5), (1, 2)]).spans(), [(1, 5)])
        self.assertEqual(Days([(1, 2), (4, 5)]).spans(), [(1, 2), (4, 5)])

    def test_overlapping(self):
        self.assertEqual(Days([(1, 5), (4, 9)]).spans(), [(1, 9)])
        self.assertEqual(Days([(1, 9), (2, 3), (5, 6)]).spans(), [(1, 9)])
        self.assertEqual(Days([(1, 9), (1, 3), (9, 11)]).spans(), [(1, 11)])
        self.assertEqual(Days([(2, 3), (1, 9), (8, 8), (10, 10)]).spans(), [(1, 10)])

    def test_twice(self):
        self.assertEqual(Days([(3, 7), (9, 9), (3, 7), (9, 9)]).spans(), [(3, 7), (9, 9)])

    def test_at_the_first_and_last_days(self):
        self.assertEqual(Days([(0, 0)]).spans(), [(0, 0)])
        self.assertEqual(Days([(3639, 3639)]).spans(), [(3639, 3639)])
        self.assertEqual(Days([(3639, 3639), (0, 0)]).spans(), [(0, 0), (3639, 3639)])
        self.assertEqual(Days([(0, 3639)]).spans(), [(0, 3639)])
        self.assertEqual(Days([(2000, 3639), (0, 1999)]).spans(), [(0, 3639)])

    def test_of_a_hundred(self):
        self.assertEqual(Days(HUNDRED[::-1]).spans(), HUNDRED)
        touching = [(36 * at, 36 * at + 35) for at in range(100)]
        self.assertEqual(Days(touching[::-1]).spans(), [(0, 3599)])

    def test_are_the_fewest_of_any(self):
        chance = random.Random(1)
        for _ in range(300):
            spans = some_spans(chance, chance.choice([12, 60, 3639]), 12)
            told = Days(spans).spans()
            self.assertEqual(told, fewest(days_of(spans)))
            self.assertIsInstance(told, list)
            self.assertTrue(all(type(pair) is tuple for pair in told))

    def test_what_was_told_may_be_handed_in_though_it_is_greater(self):
        more = Days(HUNDRED).joined(Days([(first + 10, last + 10) for first, last in HUNDRED]))
        self.assertEqual(len(more.spans()), 200)
        self.assertEqual(Days(more.spans()).spans(), more.spans())


class Asked(unittest.TestCase):
    def test_has(self):
        days = Days([(3, 7), (9, 9)])
        for day in range(12):
            self.assertIs(days.has(day), day in (3, 4, 5, 6, 7, 9))

    def test_none_has_no_day(self):
        for day in (0, 1, 3639):
            self.assertIs(Days().has(day), False)

    def test_has_at_the_first_and_last_days(self):
        ends = Days([(0, 0), (3639, 3639)])
        self.assertIs(ends.has(0), True)
        self.assertIs(ends.has(1), False)
        self.assertIs(ends.has(3638), False)
        self.assertIs(ends.has(3639), True)

    def test_first_day(self):
        self.assertEqual(Days([(9, 9), (3, 7)]).first_day(), 3)
        self.assertEqual(Days([(3639, 3639)]).first_day(), 3639)
        self.assertIsNone(Days().first_day())

    def test_first_day_may_be_day_0(self):
        first = Days([(5, 6), (0, 2)]).first_day()
        self.assertIsNotNone(first)
        self.assertEqual(first, 0)

    def test_len(self):
        self.assertEqual(len(Days()), 0)
        self.assertEqual(len(Days([(0, 0)])), 1)
        self.assertEqual(len(Days([(3, 7), (9, 9)])), 6)
        self.assertEqual(len(Days([(3, 7), (5, 9), (3, 7)])), 7)
        self.assertEqual(len(Days([(0, 3639)])), 3640)
        self.assertEqual(len(Days(HUNDRED)), 600)

    def test_equal_by_days_whatever_the_spans(self):
        self.assertTrue(Days([(1, 4)]) == Days([(3, 4), (1, 2), (2, 3)]))
        self.assertFalse(Days([(1, 4)]) != Days([(3, 4), (1, 2), (2, 3)]))
        self.assertTrue(Days() == Days([]))
        self.assertTrue(Days() == Days(None))

    def test_unequal_by_days(self):
        self.assertFalse(Days([(1, 4)]) == Days([(1, 3)]))
        self.assertFalse(Days([(1, 4)]) == Days([(0, 4)]))
        self.assertFalse(Days([(1, 4)]) == Days([(1, 2), (4, 4)]))
        self.assertFalse(Days([(1, 2), (4, 5)]) == Days([(1, 1), (3, 5)]))
        self.assertFalse(Days() == Days([(0, 0)]))
        self.assertTrue(Days([(0, 0)]) != Days())

    def test_str(self):
        self.assertEqual(str(Days([(9, 9), (3, 7)])), "3-7 9")
        self.assertEqual(str(Days([(0, 0)])), "0")
        self.assertEqual(str(Days([(0, 3639)])), "0-3639")
        self.assertEqual(str(Days([(3, 4)])), "3-4")
        self.assertEqual(str(Days([(10, 12), (1, 2), (3, 4)])), "1-4 10-12")

    def test_str_of_none(self):
        self.assertEqual(str(Days()), "-")

    def test_repr(self):
        self.assertEqual(repr(Days([(9, 9), (3, 7)])), "Days([(3, 7), (9, 9)])")
        self.assertEqual(repr(Days([(3, 4), (1, 2)])), "Days([(1, 4)])")
        self.assertEqual(repr(Days([(0, 0)])), "Days([(0, 0)])")

    def test_repr_of_none(self):
        self.assertEqual(repr(Days()), "Days([])")


class Together(unittest.TestCase):
    # this one, the other one, joined, without, common
    CASES = [
        ([], [], [], [], []),
        ([(3, 7)], [], [(3, 7)], [(3, 7)], []),
        ([], [(3, 7)], [(3, 7)], [], []),
        ([(3, 7), (9, 9)], [(3, 7), (9, 9)], [(3, 7), (9, 9)], [], [(3, 7), (9, 9)]),
        ([(3, 7)], [(20, 30)], [(3, 7), (20, 30)], [(3, 7)], []),
        ([(20, 30)], [(3, 7)], [(3, 7), (20, 30)], [(20, 30)], []),
        ([(3, 7)], [(8, 9)], [(3, 9)], [(3, 7)], []),
        ([(8, 9)], [(3, 7)], [(3, 9)], [(8, 9)], []),
        ([(3, 7)], [(5, 9)], [(3, 9)], [(3, 4)], [(5, 7)]),
        ([(5, 9)], [(3, 7)], [(3, 9)], [(8, 9)], [(5, 7)]),
        ([(3, 7)], [(7, 9)], [(3, 9)], [(3, 6)], [(7, 7)]),
        ([(1, 9)], [(4, 5)], [(1, 9)], [(1, 3), (6, 9)], [(4, 5)]),
        ([(4, 5)], [(1, 9)], [(1, 9)], [], [(4, 5)]),
        ([(1, 9)], [(1, 3)], [(1, 9)], [(4, 9)], [(1, 3)]),
        ([(1, 9)], [(7, 9)], [(1, 9)], [(1, 6)], [(7, 9)]),
        ([(1, 9)], [(2, 2), (4, 5)], [(1, 9)], [(1, 1), (3, 3), (6, 9)], [(2, 2), (4, 5)]),
        ([(1, 3), (5, 7), (9, 9)], [(3, 5), (7, 20)], [(1, 20)], [(1, 2), (6, 6)], [(3, 3), (5, 5), (7, 7), (9, 9)]),
        ([(0, 3639)], [(0, 0), (3639, 3639)], [(0, 3639)], [(1, 3638)], [(0, 0), (3639, 3639)]),
        ([(0, 0), (3639, 3639)], [(0, 3639)], [(0, 3639)], [], [(0, 0), (3639, 3639)]),
    ]

    def check(self, one, other, joined, without, common):
        ours, others = Days(one), Days(other)
        self.assertEqual(ours.joined(others).spans(), joined)
        self.assertEqual(ours.without(others).spans(), without)
        self.assertEqual(ours.common(others).spans(), common)
        self.assertEqual(ours.spans(), fewest(days_of(one)))
        self.assertEqual(others.spans(), fewest(days_of(other)))

    def test_none_apart_overlapping_and_within(self):
        for case in self.CASES:
            with self.subTest(one=case[0], other=case[1]):
                self.check(*case)

    def test_with_itself(self):
        for spans in ([], [(0, 0)], [(3, 7), (9, 9)], HUNDRED, [(0, 3639)]):
            days = Days(spans)
            self.assertEqual(days.joined(days).spans(), spans)
            self.assertEqual(days.without(days).spans(), [])
            self.assertEqual(days.common(days).spans(), spans)
            self.assertEqual(days.spans(), spans)

    def test_any(self):
        chance = random.Random(2)
        for _ in range(500):
            top = chance.choice([10, 40, 3639])
            one, other = some_spans(chance, top, 10), some_spans(chance, top, 10)
            ours, others = days_of(one), days_of(other)
            self.check(one, other, fewest(ours | others), fewest(ours - others), fewest(ours & others))

    def test_hundreds(self):
        shifted = [(first + 3, last + 3) for first, last in HUNDRED]
        ours, others = days_of(HUNDRED), days_of(shifted)
        self.check(HUNDRED, shifted, fewest(ours | others), fewest(ours - others), fewest(ours & others))

    def test_what_is_told_are_days(self):
        one, other = Days([(1, 5)]), Days([(4, 8)])
        for told in (one.joined(other), one.without(other), one.common(other)):
            self.assertIsInstance(told, Days)
        self.assertTrue(one.common(other) == Days([(4, 4), (5, 5)]))
        self.assertEqual(len(one.joined(other)), 8)
        self.assertEqual(str(one.without(other)), "1-3")


class OneOwn(unittest.TestCase):
    def test_the_list_handed_in_is_not_changed(self):
        spans = [(9, 9), (3, 7), (4, 8)]
        Days(spans)
        self.assertEqual(spans, [(9, 9), (3, 7), (4, 8)])

    def test_changing_the_list_handed_in_changes_no_answer(self):
        for given in ([(3, 7), (9, 9)], []):
            spans = list(given)
            days = Days(spans)
            spans.append((20, 30))
            spans.insert(0, (0, 0))
            self.assertEqual(days.spans(), given)
            self.assertIs(days.has(25), False)
            self.assertTrue(days == Days(given))

    def test_changing_a_told_list_changes_no_answer(self):
        days = Days([(3, 7), (9, 9)])
        told = days.spans()
        again = days.spans()
        self.assertIsNot(told, again)
        told.append((20, 30))
        told[0] = (0, 1)
        self.assertEqual(again, [(3, 7), (9, 9)])
        self.assertEqual(days.spans(), [(3, 7), (9, 9)])
        self.assertEqual(len(days), 6)
        self.assertEqual(str(days), "3-7 9")

    def test_changing_a_told_list_of_none_changes_no_answer(self):
        none = Days()
        none.spans().append((3, 7))
        self.assertEqual(none.spans(), [])
        self.assertEqual(Days().spans(), [])

    def test_what_is_told_shares_nothing_with_what_it_came_of(self):
        one, other = Days([(1, 5)]), Days()
        for told in (one.joined(other), one.without(other), one.common(one), other.joined(one)):
            self.assertEqual(told.spans(), [(1, 5)])
            told.spans().clear()
            self.assertEqual(told.spans(), [(1, 5)])
        self.assertEqual((one.spans(), other.spans()), ([(1, 5)], []))

    def test_the_same_question_is_told_the_same(self):
        days = Days([(9, 9), (3, 7)])
        before = (days.spans(), days.has(5), days.first_day(), len(days), str(days), repr(days))
        days.joined(Days([(0, 1)]))
        days.without(Days([(3, 7)]))
        days.common(Days([(9, 12)]))
        after = (days.spans(), days.has(5), days.first_day(), len(days), str(days), repr(days))
        self.assertEqual(before, after)

    def test_arguments_by_their_names(self):
        days = Days(spans=[(3, 7)])
        self.assertIs(days.has(day=7), True)
        self.assertEqual(days.joined(other=Days([(8, 8)])).spans(), [(3, 8)])
        self.assertEqual(days.without(other=Days([(3, 3)])).spans(), [(4, 7)])
        self.assertEqual(days.common(other=Days([(1, 4)])).spans(), [(3, 4)])
        self.assertEqual(days_in(text="3-7").spans(), [(3, 7)])
        self.assertEqual(year_of(day=364), 1)
        self.assertEqual(quarter_of(day=91), 1)
        self.assertEqual(quarter_span(quarter=1), (91, 181))


def told_by_the_document(text):
    """The spans of a text as the document writes it, None of others: reckoned without the program."""
    if text == "-":
        return []
    number = "(?:0|[1-9][0-9]*)"
    if not re.fullmatch(f"{number}(?:-{number})?(?: {number}(?:-{number})?)*", text):
        return None
    spans, free_from = [], 0
    for word in text.split(" "):
        ends = [int(end) for end in word.split("-")]
        rises = len(ends) == 1 or ends[0] < ends[1]
        if not rises or ends[0] < free_from or ends[-1] > 3639:
            return None
        spans.append((ends[0], ends[-1]))
        free_from = ends[-1] + 2
    return spans


class DaysIn(unittest.TestCase):
    def check_none(self, *texts):
        for text in texts:
            with self.subTest(text=text):
                self.assertIsNone(days_in(text))

    def test_some(self):
        self.assertEqual(days_in("3-7 9").spans(), [(3, 7), (9, 9)])
        self.assertEqual(days_in("0").spans(), [(0, 0)])
        self.assertEqual(days_in("0-3639").spans(), [(0, 3639)])
        self.assertEqual(days_in("0 3639").spans(), [(0, 0), (3639, 3639)])
        self.assertEqual(days_in("10-11 100 1000-2000").spans(), [(10, 11), (100, 100), (1000, 2000)])

    def test_none_of_days_are_days(self):
        none = days_in("-")
        self.assertIsInstance(none, Days)
        self.assertEqual(none.spans(), [])

    def test_reads_back_what_str_tells(self):
        chance = random.Random(3)
        for _ in range(300):
            days = Days(some_spans(chance, chance.choice([12, 60, 3639]), 6))
            self.assertTrue(days_in(str(days)) == days)
        for day in range(3640):
            self.assertEqual(days_in(str(day)).spans(), [(day, day)])

    def test_reads_back_what_str_tells_though_it_is_greater(self):
        self.assertEqual(days_in(str(Days(HUNDRED))).spans(), HUNDRED)

    def test_each_is_of_its_own(self):
        days_in("3-7").spans().clear()
        self.assertEqual(days_in("3-7").spans(), [(3, 7)])
        self.assertIsNot(days_in("-"), days_in("-"))

    def test_none_of_the_empty_text_and_blanks(self):
        self.check_none("", " ", "  ")

    def test_none_of_spans_that_fall(self):
        self.check_none("7-3", "9 3-7", "9 3", "1-0", "20-30 1-2", "100 20")

    def test_none_of_spans_that_touch(self):
        self.check_none("3 4", "3-7 8", "3-7 8-9", "3 4-5", "0 1")

    def test_none_of_spans_that_overlap(self):
        self.check_none("3-7 7", "3-7 5-9", "3 3", "3-7 3-7", "1-9 4-5", "0-9 9-10")

    def test_none_of_a_day_by_itself_written_as_a_pair(self):
        self.check_none("3-3", "0-0", "3639-3639", "1 3-3", "3-3 9")

    def test_none_of_noughts_ahead(self):
        self.check_none("03", "00", "03-7", "3-07", "0003", "3-7 09", "00-5", "0000003", "0" * 60)

    def test_none_of_days_beyond_the_last(self):
        self.check_none("3640", "3639-3640", "0-3640", "9999", "10000", "0 3640", "3640-3641", "9" * 60)

    def test_none_of_a_blank_too_many(self):
        self.check_none(" 3", "3 ", "3  9", " 3-7 9", "3-7 9 ", "3 -7", "3- 7", "3 - 7", " -", "- ", "- -")

    def test_none_of_a_minus_too_many_or_without_days(self):
        self.check_none("--", "3-", "-3", "3--7", "3-7-9", "- 3", "3 -", "-3-7", "3-7-", "3-7 -")

    def test_none_of_other_signs(self):
        self.check_none("a", "3a", "3-b", "+3", "3-+7", "3,7", "3;9", "1_0", "3.0", "0x3", "3\n", "\n3", "3\n9",
                        "3\t9", "-\n", "3/7", "3:7", "None", "[]", "Days([])", "(3, 7)", "~", "\u0663", "\u00b2",
                        "3\u20137", "3\u00a09", "\uff13")

    def test_every_short_text(self):
        for length in range(6):
            for signs in itertools.product("01 -9", repeat=length):
                text = "".join(signs)
                expected = told_by_the_document(text)
                told = days_in(text)
                self.assertEqual(None if told is None else told.spans(), expected, text)


class QuartersAndYears(unittest.TestCase):
    def test_all_40_quarters(self):
        for quarter in range(40):
            first, last = quarter_span(quarter)
            self.assertEqual((first, last), (91 * quarter, 91 * quarter + 90))
            self.assertEqual(quarter_of(first), quarter)
            self.assertEqual(quarter_of(last), quarter)
            self.assertEqual(year_of(first), quarter // 4)
            self.assertEqual(year_of(last), quarter // 4)

    def test_quarter_spans(self):
        self.assertEqual(quarter_span(0), (0, 90))
        self.assertEqual(quarter_span(1), (91, 181))
        self.assertEqual(quarter_span(39), (3549, 3639))
        self.assertIs(type(quarter_span(0)), tuple)

    def test_first_and_last_days_of_years(self):
        for year in range(10):
            self.assertEqual(year_of(364 * year), year)
            self.assertEqual(year_of(364 * year + 363), year)
            self.assertEqual(year_span(year), (364 * year, 364 * year + 363))
        self.assertEqual((year_of(0), year_of(363), year_of(364), year_of(3639)), (0, 0, 1, 9))

    def test_every_day_is_in_its_quarter(self):
        for day in range(3640):
            first, last = quarter_span(quarter_of(day))
            self.assertTrue(first <= day <= last)
            self.assertEqual(quarter_of(day) // 4, year_of(day))
        self.assertEqual((quarter_of(0), quarter_of(90), quarter_of(91), quarter_of(3639)), (0, 0, 1, 39))


class RunsOf(unittest.TestCase):
    def test_each_as_long_as_can_be(self):
        self.assertEqual(runs_of([(0, "a")]), [(0, 3639, "a")])
        self.assertEqual(runs_of([(0, "a"), (5, "b")]), [(0, 4, "a"), (5, 3639, "b")])
        self.assertEqual(runs_of([(0, "a"), (5, "a"), (9, "b"), (3639, "a")]),
                         [(0, 8, "a"), (9, 3638, "b"), (3639, 3639, "a")])
        self.assertEqual(runs_of([(0, "a"), (5, "a"), (9, "a")]), [(0, 3639, "a")])

    def test_the_list_handed_in_stays(self):
        marks = [(0, "a"), (5, "a"), (9, "b")]
        runs_of(marks)
        self.assertEqual(marks, [(0, "a"), (5, "a"), (9, "b")])


if __name__ == "__main__":
    unittest.main()
