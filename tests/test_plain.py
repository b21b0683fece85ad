import unittest

from lettolls.plain import is_name, is_number, is_within, number_in
from things import THINGS


class Names(unittest.TestCase):
    def test_names(self):
        for name in ("a", "z", "cow", "abcdefgh", "ijklmnop", "qrstuvwx", "yz"):
            self.assertIs(is_name(name), True)

    def test_what_is_no_name(self):
        for text in ("", "abcdefghi", "A", "Cow", "c w", " ", "a ", "a\n", "a1", "0", "TRUST", "a-b", "\u00e4"):
            self.assertIs(is_name(text), False)

    def test_things(self):
        for thing in THINGS:
            self.assertIs(is_name(thing), isinstance(thing, str) and thing in ("a", "cow"))


class Numbers(unittest.TestCase):
    def test_things(self):
        for thing in THINGS:
            self.assertIs(is_number(thing), type(thing) is int)
            self.assertIs(is_within(thing, 0, 1), type(thing) is int and thing in (0, 1))

    def test_within(self):
        self.assertEqual([is_within(number, -1, 2) for number in range(-3, 5)],
                         [False, False, True, True, True, True, False, False])


class Figures(unittest.TestCase):
    def test_plain_figures(self):
        for number in (0, 1, 9, 10, 90, 99, 100):
            self.assertEqual(number_in(str(number), 100), number)

    def test_beyond_the_most(self):
        for word in ("101", "999", "1000", "9" * 5000):
            self.assertIsNone(number_in(word, 100))

    def test_noughts_ahead(self):
        for word in ("00", "01", "007", "000"):
            self.assertIsNone(number_in(word, 100))

    def test_other_words(self):
        for word in ("", " ", "1 ", " 1", "+1", "-1", "-0", "1_0", "a", "1a", "\u0663", "\u00b2", "1.", "\n1", "-"):
            self.assertIsNone(number_in(word, 100))


if __name__ == "__main__":
    unittest.main()
