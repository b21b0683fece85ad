import unittest

from lettolls import errors

# class, what stands straight above it, its field, something that it is made with
REFUSALS = [
    (errors.BadEntry, errors.TollError, "words", "no such word"),
    (errors.BadRow, errors.TollError, "row", 3),
    (errors.Twice, errors.TollError, "number", 9999),
    (errors.Full, errors.TollError, "many", 100),
    (errors.NoGate, KeyError, "gate", "east"),
    (errors.NoEntry, LookupError, "number", 0),
    (errors.NoLease, LookupError, "lease", -1),
    (errors.NoDeed, IndexError, "many", 0),
    (errors.NoShare, ZeroDivisionError, "many", 20),
]


class Above(unittest.TestCase):
    def test_toll_error_stands_straight_under_value_error(self):
        self.assertEqual(errors.TollError.__bases__, (ValueError,))

    def test_each_stands_straight_under_the_class_that_is_named(self):
        for refusal, above, _, _ in REFUSALS:
            with self.subTest(refusal=refusal.__name__):
                self.assertEqual(refusal.__bases__, (above,))

    def test_none_stands_under_another_one_of_these(self):
        for refusal, _, _, _ in REFUSALS:
            for other, _, _, _ in REFUSALS:
                if refusal is not other:
                    with self.subTest(refusal=refusal.__name__, other=other.__name__):
                        self.assertFalse(issubclass(refusal, other))

    def test_toll_error_has_just_its_four_below_it(self):
        below = [refusal for refusal, _, _, _ in REFUSALS if issubclass(refusal, errors.TollError)]
        self.assertEqual(below, [errors.BadEntry, errors.BadRow, errors.Twice, errors.Full])
        for refusal, _, _, _ in REFUSALS:
            self.assertFalse(issubclass(errors.TollError, refusal))


class Fields(unittest.TestCase):
    def test_the_field_is_what_it_is_made_with_by_its_place(self):
        for refusal, _, field, made_with in REFUSALS:
            with self.subTest(refusal=refusal.__name__):
                self.assertEqual(getattr(refusal(made_with), field), made_with)

    def test_the_field_is_what_it_is_made_with_by_its_name(self):
        for refusal, _, field, made_with in REFUSALS:
            with self.subTest(refusal=refusal.__name__):
                self.assertEqual(getattr(refusal(**{field: made_with}), field), made_with)

    def test_the_field_is_there_where_it_is_caught_as_what_stands_above(self):
        for refusal, above, field, made_with in REFUSALS:
            with self.subTest(refusal=refusal.__name__):
                with self.assertRaises(above) as caught:
                    raise refusal(made_with)
                self.assertIs(type(caught.exception), refusal)
                self.assertEqual(getattr(caught.exception, field), made_with)

    def test_two_of_a_class_have_fields_of_their_own(self):
        one, other = errors.BadRow(1), errors.BadRow(2)
        self.assertEqual((one.row, other.row), (1, 2))

    def test_each_has_words(self):
        for refusal, _, _, made_with in REFUSALS:
            with self.subTest(refusal=refusal.__name__):
                self.assertNotEqual(str(refusal(made_with)), "")


if __name__ == "__main__":
    unittest.main()
