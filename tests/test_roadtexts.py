import random
import string
import unittest

from lettolls.errors import BadRow
from lettolls.roads import Roads
from lettolls.roadtexts import read_roads

MOST = """road a b k l m
road b c
road c d n
road d e o p
road e f
road f g q r s
road g h t
road a b"""


def some_name(chance):
    return "".join(chance.choice(string.ascii_lowercase) for _ in range(chance.randint(1, 8)))


def some_names(chance, many):
    names = set()
    while len(names) < many:
        names.add(some_name(chance))
    return sorted(names, key=lambda name: chance.random())


def some_rows(chance):
    places = some_names(chance, chance.randint(2, 8))
    gates = some_names(chance, 10)
    rows = []
    for _ in range(chance.randint(0, 8)):
        one, other = chance.sample(places, 2)
        many = chance.randint(0, min(4, len(gates)))
        rows.append((one, other, tuple(gates[:many])))
        gates = gates[many:]
    return rows


class Read(unittest.TestCase):
    def test_some(self):
        roads = read_roads("road york hull east mid\nroad hull york\nroad goole hull quay")
        self.assertIsInstance(roads, Roads)
        self.assertEqual(roads.rows(), [("york", "hull", ("east", "mid")), ("hull", "york", ()),
                                        ("goole", "hull", ("quay",))])

    def test_kinds_of_what_is_told(self):
        rows = read_roads("road a b k").rows()
        self.assertEqual((type(rows), type(rows[0]), type(rows[0][2])), (list, tuple, tuple))

    def test_the_empty_text_is_that_of_none(self):
        self.assertIsInstance(read_roads(""), Roads)
        self.assertEqual(read_roads("").rows(), [])

    def test_the_most_roads_places_and_gates(self):
        roads = read_roads(MOST)
        self.assertEqual((len(roads), len(roads.places()), len(roads.gates())), (8, 8, 10))
        self.assertEqual(str(roads), MOST)

    def test_ten_gates_on_one_road(self):
        self.assertEqual(read_roads("road a b " + " ".join("klmnopqrst")).gates(), list("klmnopqrst"))

    def test_names_of_1_and_of_8_letters(self):
        text = "road a zzzzzzzz abcdefgh z\nroad road gate gate road"
        self.assertEqual(str(read_roads(text)), text)

    def test_a_gate_may_have_a_places_name(self):
        self.assertEqual(read_roads("road a b a b").rows(), [("a", "b", ("a", "b"))])

    def test_reads_back_what_str_tells(self):
        chance = random.Random(11)
        for _ in range(300):
            roads = Roads(some_rows(chance))
            again = read_roads(str(roads))
            self.assertTrue(again == roads)
            self.assertEqual(again.rows(), roads.rows())

    def test_each_is_of_its_own(self):
        read_roads("road a b k").rows().clear()
        self.assertEqual(read_roads("road a b k").rows(), [("a", "b", ("k",))])
        self.assertIsNot(read_roads(""), read_roads(""))

    def test_the_argument_by_its_name(self):
        self.assertEqual(len(read_roads(text="road a b")), 1)


class Refused(unittest.TestCase):
    def check(self, row, *texts):
        for text in texts:
            with self.subTest(text=text):
                with self.assertRaises(BadRow) as caught:
                    read_roads(text)
                self.assertEqual(caught.exception.row, row)

    def check_row(self, *bad):
        """The bad row alone, behind others, and ahead of others."""
        for row in bad:
            self.check(0, row, row + "\nroad a b", row + "\n" + row)
            self.check(1, "road c d x\n" + row, "road c d x\n" + row + "\nroad a b\n")
            self.check(2, "road c d x\nroad d c\n" + row, "road c d x\nroad d c\n" + row + "\nno")

    def test_empty_rows(self):
        self.check(0, "\n", "\nroad a b", "\n\n")
        self.check(1, "road a b\n", "road a b\n\nroad b c", "road a b\n\n")
        self.check(2, "road a b\nroad b c\n")
        self.check(8, MOST + "\n")

    def test_empty_words(self):
        self.check_row(" road a b", "road  a b", "road a  b", "road a b ", "road a b  k", "road a b k ", " ", "  ",
                       "road ", "road a ")

    def test_another_first_word(self):
        self.check_row("roads a b", "Road a b", "a b", "way a b k", "ROAD a b", "a road b", "oad a b")

    def test_too_few_words(self):
        self.check_row("road", "road a", "r")

    def test_names_that_are_no_name(self):
        for bad in ("abcdefghi", "A", "aB", "a1", "1", "a-b", "a_b", "*", "-", "TRUST", "a\tb", "\t", "a;", "\u00e4",
                    "\u0430", "a\r", "~"):
            self.check_row(f"road {bad} b", f"road a {bad}", f"road a b {bad}", f"road a b k {bad} l")

    def test_two_like_places(self):
        self.check_row("road a a", "road a a k", "road abc abc")

    def test_a_gate_twice_in_one_row(self):
        self.check_row("road a b k k", "road a b k l k", "road a b l k k m")

    def test_a_gate_that_stands_ahead(self):
        self.check(1, "road a b k\nroad b c k", "road a b k\nroad b c l k", "road a b l k\nroad a b k",
                   "road a b k\nroad b c k\nroad c d k")
        self.check(2, "road a b k\nroad a b\nroad b c k", "road a b k\nroad a b l\nroad b c l")

    def test_the_ninth_road(self):
        nine = "\n".join(["road a b"] * 9)
        self.check(8, nine, nine + "\nroad a b", nine + "\n\n", "\n".join(["road b a"] * 40))
        self.assertEqual(len(read_roads("\n".join(["road a b"] * 8))), 8)

    def test_the_ninth_place(self):
        eight = "road a b\nroad c d\nroad e f\nroad g h"
        self.assertEqual(len(read_roads(eight + "\nroad h a").places()), 8)
        self.check(4, eight + "\nroad h i", eight + "\nroad i h", eight + "\nroad i j", eight + "\nroad i a\nno")
        self.check(5, eight + "\nroad a c\nroad i a")
        self.check(4, "road a b\nroad a c\nroad d e\nroad f g\nroad h i")

    def test_the_eleventh_gate(self):
        ten = "road a b k l m n o\nroad b c p q r s t"
        self.assertEqual(len(read_roads(ten + "\nroad a b").gates()), 10)
        self.check(0, "road a b " + " ".join("klmnopqrstu"), "road a b " + " ".join("abcdefghijklmno"))
        self.check(1, "road a b k l m n o\nroad b c p q r s t u", "road a b k\nroad b c l m n o p q r s t u")
        self.check(2, ten + "\nroad a b u", ten + "\nroad c a u")
        self.check(3, ten + "\nroad a b\nroad c a u")

    def test_the_first_of_several(self):
        self.check(1, "road a b k\nroad a a\nroad b c k", "road a b k\nroad b c k\nroad a a", "road a b\n\nno")
        self.check(0, "road a\nroad a b\nroad a")

    def test_a_refusal_changes_nothing(self):
        self.check(1, "road a b k\nno")
        self.assertEqual(read_roads("road a b k").rows(), [("a", "b", ("k",))])
        self.check(1, "road a b k\nno")


if __name__ == "__main__":
    unittest.main()
