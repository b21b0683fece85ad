import random
import unittest

from lettolls.errors import NoShare
from lettolls.shares import part_of, split_by


class PartOf(unittest.TestCase):
    def test_days_one_by_one(self):
        self.assertEqual([part_of(10, 4, day) for day in range(4)], [2, 3, 2, 3])
        self.assertEqual([part_of(2, 5, day) for day in range(5)], [0, 0, 1, 0, 1])

    def test_several_days(self):
        self.assertEqual(part_of(10, 4, 1, 2), 5)
        self.assertEqual(part_of(10, 3, 0, 1), 6)
        self.assertEqual(part_of(10, 3, 1, 2), 7)

    def test_last_left_out_none_and_the_same_as_first(self):
        for day in range(7):
            alone = part_of(100, 7, day)
            self.assertEqual(part_of(100, 7, day, None), alone)
            self.assertEqual(part_of(100, 7, day, day), alone)

    def test_last_may_be_day_0(self):
        self.assertEqual(part_of(10, 3, 0, 0), 3)

    def test_nothing_is_spread_as_nothing(self):
        for many in (1, 2, 364, 4000):
            self.assertEqual(part_of(0, many, 0, many - 1), 0)
            self.assertEqual(part_of(0, many, many - 1), 0)

    def test_one_day_has_the_whole(self):
        for total in (0, 1, 999, 10 ** 12):
            self.assertEqual(part_of(total, 1, 0), total)
            self.assertEqual(part_of(total, 1, 0, 0), total)

    def test_the_greatest_total_on_the_most_days(self):
        self.assertEqual(part_of(10 ** 12, 4000, 0), 250000000)
        self.assertEqual(part_of(10 ** 12, 4000, 3999), 250000000)
        self.assertEqual(part_of(10 ** 12, 4000, 0, 3999), 10 ** 12)

    def test_rounding_is_exact_for_great_totals(self):
        self.assertEqual([part_of(10 ** 12, 3, day) for day in range(3)],
                         [333333333333, 333333333333, 333333333334])
        self.assertEqual(part_of(10 ** 12 - 1, 3999, 3998), 10 ** 12 - 1 - (10 ** 12 - 1) * 3998 // 3999)

    def test_the_parts_of_all_days_are_together_the_total(self):
        for total in (0, 1, 363, 364, 365, 123456789, 10 ** 12):
            for many in (1, 2, 91, 364, 3999, 4000):
                with self.subTest(total=total, many=many):
                    self.assertEqual(sum(part_of(total, many, day) for day in range(many)), total)
                    self.assertEqual(part_of(total, many, 0, many - 1), total)

    def test_stretches_that_follow_each_other_are_together_the_whole_stretch(self):
        chance = random.Random(4)
        for _ in range(300):
            total, many = chance.randint(0, 10 ** 12), chance.randint(2, 4000)
            first = chance.randrange(many - 1)
            last = chance.randrange(first + 1, many)
            cut = chance.randrange(first, last)
            self.assertEqual(part_of(total, many, first, cut) + part_of(total, many, cut + 1, last),
                             part_of(total, many, first, last))

    def test_arguments_by_their_names(self):
        self.assertEqual(part_of(total=10, many=4, first=1, last=2), 5)
        self.assertEqual(part_of(last=2, first=1, many=4, total=10), 5)
        self.assertEqual(part_of(total=10, many=4, first=1), 3)

    def test_the_same_question_is_told_the_same(self):
        self.assertEqual(part_of(11, 4, 3), part_of(11, 4, 3))


class SplitBy(unittest.TestCase):
    def test_some_weights(self):
        self.assertEqual(split_by(10, [1, 1, 1]), [3, 3, 4])
        self.assertEqual(split_by(100, [1, 2, 3]), [16, 34, 50])
        self.assertEqual(split_by(7, [3, 1]), [5, 2])

    def test_one_weight_has_the_whole(self):
        for total in (0, 1, 10 ** 12):
            self.assertEqual(split_by(total, [1]), [total])
            self.assertEqual(split_by(total, [10 ** 6]), [total])

    def test_twenty_weights(self):
        self.assertEqual(split_by(30, [1] * 20), [1, 2] * 10)
        self.assertEqual(split_by(10 ** 12, [10 ** 6] * 20), [5 * 10 ** 10] * 20)

    def test_weights_of_0_have_nothing(self):
        self.assertEqual(split_by(10, [0, 1, 0, 1, 0]), [0, 5, 0, 5, 0])
        self.assertEqual(split_by(11, [0, 0, 7]), [0, 0, 11])
        self.assertEqual(split_by(11, [7, 0, 0]), [11, 0, 0])

    def test_a_total_of_0(self):
        self.assertEqual(split_by(0, [1, 0, 5]), [0, 0, 0])

    def test_the_parts_are_as_the_document_reckons_them(self):
        chance = random.Random(5)
        for _ in range(300):
            total = chance.choice([0, 1, chance.randint(0, 100), chance.randint(0, 10 ** 12)])
            weights = [chance.choice([0, 1, chance.randint(0, 10 ** 6)]) for _ in range(chance.randint(1, 20))]
            weights[chance.randrange(len(weights))] = chance.randint(1, 10 ** 6)
            parts = split_by(total, weights)
            self.assertIsInstance(parts, list)
            self.assertEqual(len(parts), len(weights))
            self.assertEqual(sum(parts), total)
            for at in range(len(weights)):
                reached = total * sum(weights[:at + 1]) // sum(weights)
                self.assertEqual(parts[at], reached - sum(parts[:at]))

    def test_no_share_where_the_weights_are_0_together(self):
        for weights in ([0], [0, 0, 0], [0] * 20):
            for total in (0, 1, 10 ** 12):
                with self.subTest(weights=weights, total=total):
                    with self.assertRaises(NoShare) as caught:
                        split_by(total, weights)
                    self.assertEqual(caught.exception.many, len(weights))

    def test_no_share_where_there_are_no_weights(self):
        for total in (0, 5):
            with self.assertRaises(NoShare) as caught:
                split_by(total, [])
            self.assertEqual(caught.exception.many, 0)

    def test_what_is_handed_in_is_not_changed(self):
        weights = [3, 0, 1]
        split_by(10, weights)
        self.assertEqual(weights, [3, 0, 1])
        noughts = [0, 0]
        with self.assertRaises(NoShare):
            split_by(10, noughts)
        self.assertEqual(noughts, [0, 0])

    def test_told_lists_are_the_askers_own(self):
        weights = [3, 0, 1]
        told = split_by(10, weights)
        again = split_by(10, weights)
        self.assertIsNot(told, weights)
        self.assertIsNot(told, again)
        told.append(99)
        weights.clear()
        self.assertEqual(again, [7, 0, 3])
        self.assertEqual(split_by(10, [3, 0, 1]), [7, 0, 3])

    def test_what_was_told_may_be_handed_in_again(self):
        parts = split_by(10 ** 12, [1, 3])
        self.assertEqual(split_by(8, parts), [2, 6])

    def test_arguments_by_their_names(self):
        self.assertEqual(split_by(total=10, weights=[1, 4]), [2, 8])
        self.assertEqual(split_by(weights=[1, 4], total=10), [2, 8])


if __name__ == "__main__":
    unittest.main()
