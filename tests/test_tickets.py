import unittest

from lettolls.tickets import ticket_in, ticket_text


class TicketText(unittest.TestCase):
    def test_some(self):
        for number, at, text in ((1, 0, "00010"), (1, 9, "00019"), (9999, 0, "270F0"), (9999, 9, "270F9"),
                                 (10, 3, "000A3"), (171, 0, "00AB0"), (255, 9, "00FF9"), (256, 1, "01001"),
                                 (4095, 5, "0FFF5"), (4096, 0, "10000"), (3567, 2, "0DEF2")):
            self.assertEqual(ticket_text(number, at), text)

    def test_arguments_by_their_names(self):
        self.assertEqual(ticket_text(at=2, number=12), "000C2")


class TicketIn(unittest.TestCase):
    def none(self, *texts):
        for text in texts:
            with self.subTest(text=text):
                self.assertIsNone(ticket_in(text))

    def test_all_are_read_back(self):
        for number in range(1, 10000):
            for at in (0, 1, 8, 9):
                self.assertEqual(ticket_in(ticket_text(number, at)), (number, at))

    def test_no_two_are_the_same(self):
        texts = {ticket_text(number, at) for number in range(1, 10000) for at in range(10)}
        self.assertEqual(len(texts), 9999 * 10)

    def test_a_pair(self):
        self.assertEqual(ticket_in("270F9"), (9999, 9))
        self.assertIsInstance(ticket_in("270F9"), tuple)

    def test_all_texts_of_five_signs_to_the_last_ticket_and_beyond(self):
        for whole in range(0x28000):
            number, at = divmod(whole, 16)
            expected = (number, at) if 1 <= number <= 9999 and at <= 9 else None
            self.assertEqual(ticket_in(f"{whole:05X}"), expected)

    def test_small_letters(self):
        self.none("270f9", "000a3", "0DeF2", "00abc")

    def test_too_many_or_too_few_signs(self):
        self.none("", "1", "10", "0010", "0270F9", "000010", "000000270F9", "270F", "70F9", "0" * 60, "1" * 60)

    def test_numbers_that_there_are_none_of(self):
        self.none("00000", "00009", "27100", "27109", "FFFF0", "FFFF9", "99999", "A0000")

    def test_ats_that_there_are_none_of(self):
        self.none(*[f"0001{sign}" for sign in "ABCDEF"], *[f"270F{sign}" for sign in "ABCDEF"])

    def test_signs_that_are_no_figures(self):
        self.none("0001G", "0001 ", " 0010", "0 010", "+0010", "-0010", "0x010", "0X010", "00_10", "1_0_0", "0001O",
                  "0.010", "00010 ", " 00010", "00010\n", "\n0010", "\u0660\u0660\u0660\u0661\u0660", "TRUST", "-----")

    def test_the_argument_by_its_name(self):
        self.assertEqual(ticket_in(text="00010"), (1, 0))


if __name__ == "__main__":
    unittest.main()
