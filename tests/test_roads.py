import itertools
import unittest

from lettolls.errors import NoGate
from lettolls.roads import Roads

SOME = [("york", "hull", ("east", "mid", "west")), ("hull", "york", ()), ("hull", "goole", ("quay",)),
        ("selby", "york", ("bar", "arch"))]
# eight roads, eight places, ten gates
MOST = [("a", "b", ("k", "l", "m")), ("b", "c", ()), ("c", "d", ("n",)), ("d", "e", ("o", "p")), ("e", "f", ()),
        ("f", "g", ("q", "r", "s")), ("g", "h", ("t",)), ("a", "b", ())]


class Told(unittest.TestCase):
    def test_of_none(self):
        none = Roads([])
        self.assertEqual((none.rows(), none.places(), none.gates(), len(none), str(none)), ([], [], [], 0, ""))

    def test_rows_are_told_in_order(self):
        for rows in (SOME, SOME[::-1], MOST, MOST[::-1]):
            self.assertEqual(Roads(rows).rows(), rows)
            self.assertIs(type(Roads(rows).rows()), list)

    def test_places_rise_each_once(self):
        self.assertEqual(Roads(SOME).places(), ["goole", "hull", "selby", "york"])
        self.assertEqual(Roads(MOST).places(), list("abcdefgh"))
        self.assertEqual(Roads(MOST[::-1]).places(), list("abcdefgh"))
        self.assertEqual(Roads([("b", "a", ())]).places(), ["a", "b"])

    def test_gates_rise(self):
        self.assertEqual(Roads(SOME).gates(), ["arch", "bar", "east", "mid", "quay", "west"])
        self.assertEqual(Roads(MOST).gates(), list("klmnopqrst"))
        self.assertEqual(Roads([("a", "b", ("z", "m", "b"))]).gates(), ["b", "m", "z"])

    def test_a_gate_and_a_place_may_have_one_name(self):
        roads = Roads([("a", "b", ("b", "a"))])
        self.assertEqual((roads.places(), roads.gates()), (["a", "b"], ["a", "b"]))
        self.assertEqual(roads.gates_from("b", "a"), ("b", "a"))
        self.assertEqual(roads.gates_from("a", "b"), ())

    def test_roads_without_gates(self):
        roads = Roads([("a", "b", ()), ("b", "c", ())])
        self.assertEqual((roads.gates(), roads.places(), len(roads)), ([], ["a", "b", "c"], 2))

    def test_several_between_the_same_places(self):
        rows = [("a", "b", ("k",)), ("a", "b", ("l",)), ("b", "a", ("m",)), ("a", "b", ()), ("a", "b", ())]
        roads = Roads(rows)
        self.assertEqual((roads.rows(), roads.places(), len(roads)), (rows, ["a", "b"], 5))
        self.assertEqual([roads.road_of(gate) for gate in "klm"], [0, 1, 2])
        self.assertEqual(roads.gates_from("k", "l"), ())

    def test_len(self):
        self.assertEqual([len(Roads(MOST[:many])) for many in range(9)], list(range(9)))


class RoadOf(unittest.TestCase):
    def test_each_gate(self):
        for rows in (SOME, MOST, MOST[::-1]):
            roads = Roads(rows)
            for at, (_, _, gates) in enumerate(rows):
                for gate in gates:
                    self.assertEqual(roads.road_of(gate), at)

    def check_refused(self, rows, gate):
        with self.assertRaises(NoGate) as caught:
            Roads(rows).road_of(gate)
        self.assertEqual(caught.exception.gate, gate)

    def test_no_gate(self):
        self.check_refused([], "east")
        self.check_refused(SOME, "north")
        self.check_refused(SOME, "eas")
        self.check_refused(SOME, "")

    def test_a_place_is_no_gate(self):
        self.check_refused(SOME, "york")


class GatesFrom(unittest.TestCase):
    def test_one_gate(self):
        for gate in Roads(SOME).gates():
            self.assertEqual(Roads(SOME).gates_from(gate, gate), (gate,))

    def test_forward(self):
        roads = Roads(SOME)
        self.assertEqual(roads.gates_from("east", "west"), ("east", "mid", "west"))
        self.assertEqual(roads.gates_from("east", "mid"), ("east", "mid"))
        self.assertEqual(roads.gates_from("mid", "west"), ("mid", "west"))
        self.assertEqual(roads.gates_from("bar", "arch"), ("bar", "arch"))
        self.assertIs(type(roads.gates_from("east", "west")), tuple)

    def test_the_other_way_about(self):
        roads = Roads(SOME)
        for first, last in [("west", "east"), ("mid", "east"), ("west", "mid"), ("arch", "bar")]:
            self.assertEqual(roads.gates_from(first, last), ())
            self.assertIs(type(roads.gates_from(first, last)), tuple)

    def test_of_unlike_roads(self):
        roads = Roads(SOME)
        for first, last in [("east", "quay"), ("quay", "east"), ("bar", "west"), ("arch", "quay")]:
            self.assertEqual(roads.gates_from(first, last), ())

    def test_each_pair(self):
        rows = MOST[:5] + [("f", "g", ("q", "t", "s", "r")), ("a", "c", ("u",))]
        roads = Roads(rows)
        for first, last in itertools.product(roads.gates(), repeat=2):
            gates = [row[2] for row in rows if first in row[2]][0]
            behind = gates[gates.index(first):]
            expected = behind[:behind.index(last) + 1] if last in behind else ()
            self.assertEqual(roads.gates_from(first, last), expected)

    def test_no_gate_of_the_first_that_there_isnt(self):
        for first, last, gate in [("no", "east", "no"), ("east", "no", "no"), ("no", "nay", "no"),
                                  ("nay", "no", "nay"), ("york", "east", "york"), ("quay", "hull", "hull")]:
            with self.subTest(first=first, last=last):
                with self.assertRaises(NoGate) as caught:
                    Roads(SOME).gates_from(first, last)
                self.assertEqual(caught.exception.gate, gate)

    def test_no_gate_of_none(self):
        with self.assertRaises(NoGate) as caught:
            Roads([]).gates_from("east", "west")
        self.assertEqual(caught.exception.gate, "east")


class Compared(unittest.TestCase):
    def check_unlike(self, one, other):
        self.assertFalse(Roads(one) == Roads(other))
        self.assertFalse(Roads(other) == Roads(one))
        self.assertTrue(Roads(one) != Roads(other))

    def test_the_same_rows(self):
        for rows in ([], SOME, MOST):
            self.assertTrue(Roads(rows) == Roads(list(rows)))
            self.assertFalse(Roads(rows) != Roads(list(rows)))

    def test_ends_exchanged(self):
        self.check_unlike([("a", "b", ("k",))], [("b", "a", ("k",))])
        self.check_unlike([("a", "b", ())], [("b", "a", ())])

    def test_gates_the_other_way_about(self):
        self.check_unlike([("a", "b", ("k", "l"))], [("a", "b", ("l", "k"))])

    def test_a_road_turned_round_whole(self):
        self.check_unlike([("a", "b", ("k", "l"))], [("b", "a", ("l", "k"))])

    def test_roads_exchanged(self):
        self.check_unlike(SOME, SOME[::-1])
        self.check_unlike([("a", "b", ()), ("b", "c", ())], [("b", "c", ()), ("a", "b", ())])

    def test_one_more(self):
        self.check_unlike([], [("a", "b", ())])
        self.check_unlike(MOST, MOST[:-1])

    def test_another_name(self):
        self.check_unlike([("a", "b", ("k",))], [("a", "b", ("l",))])
        self.check_unlike([("a", "b", ("k",))], [("a", "c", ("k",))])


class Texts(unittest.TestCase):
    def test_str(self):
        self.assertEqual(str(Roads([("a", "b", ())])), "road a b")
        self.assertEqual(str(Roads([("b", "a", ("l", "k"))])), "road b a l k")
        self.assertEqual(str(Roads(SOME)), "road york hull east mid west\nroad hull york\nroad hull goole quay\n"
                                           "road selby york bar arch")

    def test_str_of_none(self):
        self.assertEqual(str(Roads([])), "")


class OnesOwn(unittest.TestCase):
    def answers(self, roads):
        return (roads.rows(), roads.places(), roads.gates(), roads.road_of("quay"), roads.gates_from("east", "west"),
                len(roads), str(roads), roads == Roads(SOME))

    def test_the_list_handed_in_is_not_changed(self):
        rows = list(SOME)
        self.answers(Roads(rows))
        self.assertEqual(rows, SOME)

    def test_changing_the_list_handed_in_changes_no_answer(self):
        rows = list(SOME)
        roads = Roads(rows)
        before = self.answers(roads)
        rows.reverse()
        self.assertEqual(self.answers(roads), before)
        rows.append(("x", "z", ("y",)))
        self.assertEqual(self.answers(roads), before)
        rows.clear()
        self.assertEqual(self.answers(roads), before)

    def test_changing_told_lists_changes_no_answer(self):
        roads = Roads(SOME)
        before = self.answers(roads)
        for ask in (roads.rows, roads.places, roads.gates):
            self.assertIsNot(ask(), ask())
            told, again = ask(), ask()
            kept = list(again)
            told.reverse()
            told.append(None)
            self.assertEqual(again, kept)
            ask().clear()
        self.assertEqual(self.answers(roads), before)

    def test_told_lists_of_none_are_unlike_ones(self):
        none = Roads([])
        for ask in (none.rows, none.places, none.gates):
            ask().append("a")
            self.assertEqual(ask(), [])
        self.assertEqual(len(none), 0)

    def test_the_same_question_is_told_the_same_also_behind_refusals(self):
        roads = Roads(SOME)
        before = self.answers(roads)
        with self.assertRaises(NoGate):
            roads.road_of("no")
        with self.assertRaises(NoGate):
            roads.gates_from("east", "no")
        self.assertEqual(self.answers(roads), before)

    def test_two_roads_share_nothing(self):
        rows = list(SOME)
        one, other = Roads(rows), Roads(rows)
        one.rows().clear()
        self.assertEqual(self.answers(one), self.answers(other))
        self.assertTrue(Roads(one.rows()) == one)

    def test_arguments_by_their_names(self):
        roads = Roads(rows=SOME)
        self.assertEqual(roads.road_of(gate="quay"), 2)
        self.assertEqual(roads.gates_from(first="east", last="mid"), ("east", "mid"))
        self.assertEqual(roads.gates_from(last="mid", first="east"), ("east", "mid"))


if __name__ == "__main__":
    unittest.main()
