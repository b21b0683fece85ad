import random
import unittest

from lettolls.passing import least_tolls, least_way, no_tolls
from lettolls.roads import Roads
from nets import GREAT, all_ways, some_roads, some_shut, some_tolls

# two ways from a to d: by b, and by c; one gate on each road, and a place that no road leads to from there
SQUARE = Roads([("a", "b", ("k",)), ("b", "d", ("l",)), ("a", "c", ("m",)), ("c", "d", ("n",)), ("x", "y", ("o",))])


def tolls_of(**pence):
    return list(pence.items())


class LeastWay(unittest.TestCase):
    def check(self, roads, tolls, one, other, expected, shut=None):
        told = least_way(roads, tolls, one, other, shut)
        self.assertEqual(told, expected)
        if told is not None:
            self.assertEqual((type(told), type(told[0]), type(told[1])), (tuple, int, list))

    def test_the_least_toll(self):
        self.check(SQUARE, tolls_of(k=1, l=5, m=2, n=3, o=0), "a", "d", (5, [2, 3]))
        self.check(SQUARE, tolls_of(k=1, l=3, m=2, n=3, o=0), "a", "d", (4, [0, 1]))
        self.check(SQUARE, tolls_of(k=1, l=3, m=2, n=3, o=0), "d", "a", (4, [1, 0]))

    def test_from_a_place_to_itself(self):
        for place in "abcdxy":
            self.check(SQUARE, tolls_of(k=0, l=0, m=0, n=0, o=0), place, place, (0, []))
            self.check(SQUARE, tolls_of(k=1, l=1, m=1, n=1, o=1), place, place, (0, []), list("klmno"))

    def test_no_way(self):
        tolls = tolls_of(k=1, l=1, m=1, n=1, o=1)
        self.check(SQUARE, tolls, "a", "x", None)
        self.check(SQUARE, tolls, "y", "d", None)
        self.check(SQUARE, tolls, "x", "y", None, ["o"])
        self.check(SQUARE, tolls, "a", "d", None, ["k", "n"])

    def test_longer_but_of_less_toll(self):
        roads = Roads([("a", "d", ("k",)), ("a", "b", ("l",)), ("b", "c", ()), ("c", "d", ("m",))])
        self.check(roads, tolls_of(k=10, l=4, m=5), "a", "d", (9, [1, 2, 3]))
        self.check(roads, tolls_of(k=9, l=4, m=5), "a", "d", (9, [0]))
        self.check(roads, tolls_of(k=8, l=4, m=5), "a", "d", (8, [0]))

    def test_of_the_same_toll_the_fewest_roads(self):
        roads = Roads([("a", "b", ("k",)), ("b", "c", ("l",)), ("c", "d", ("m",)), ("a", "d", ("n",))])
        self.check(roads, tolls_of(k=1, l=1, m=1, n=3), "a", "d", (3, [3]))
        self.check(roads, tolls_of(k=0, l=0, m=0, n=0), "a", "d", (0, [3]))
        self.check(roads, tolls_of(k=0, l=0, m=0, n=0), "a", "c", (0, [0, 1]))

    def test_of_as_few_roads_the_least_list(self):
        even = tolls_of(k=1, l=1, m=1, n=1, o=1)
        self.check(SQUARE, even, "a", "d", (2, [0, 1]))
        self.check(SQUARE, even, "d", "a", (2, [1, 0]))
        self.check(SQUARE, even, "b", "c", (2, [0, 2]))
        # the first road of the way decides, not the least of its roads
        roads = Roads([("c", "d", ()), ("a", "b", ()), ("a", "c", ()), ("b", "d", ())])
        self.check(roads, [], "a", "d", (0, [1, 3]))
        self.check(roads, [], "d", "a", (0, [0, 2]))

    def test_roads_without_gates_have_no_toll(self):
        roads = Roads([("a", "b", ("k",)), ("a", "c", ()), ("c", "b", ())])
        self.check(roads, tolls_of(k=1), "a", "b", (0, [1, 2]))
        self.check(roads, tolls_of(k=0), "a", "b", (0, [0]))

    def test_a_roads_toll_is_that_of_its_gates_together(self):
        roads = Roads([("a", "b", ("k", "l", "m")), ("a", "b", ("n",))])
        self.check(roads, tolls_of(k=1, l=2, m=3, n=7), "a", "b", (6, [0]))
        self.check(roads, tolls_of(k=1, l=2, m=4, n=6), "a", "b", (6, [1]))

    def test_several_roads_between_the_same_places(self):
        roads = Roads([("a", "b", ("k",)), ("b", "a", ("l",)), ("a", "b", ("m",)), ("b", "c", ("n",)), ("c", "b", ())])
        self.check(roads, tolls_of(k=3, l=2, m=2, n=0), "a", "b", (2, [1]))
        self.check(roads, tolls_of(k=3, l=2, m=2, n=0), "b", "a", (2, [1]))
        self.check(roads, tolls_of(k=2, l=2, m=2, n=0), "a", "c", (2, [0, 3]))
        self.check(roads, tolls_of(k=2, l=2, m=1, n=1), "a", "c", (1, [2, 4]))

    def test_shut_gates(self):
        tolls = tolls_of(k=1, l=1, m=5, n=5, o=1)
        self.check(SQUARE, tolls, "a", "d", (2, [0, 1]), [])
        self.check(SQUARE, tolls, "a", "d", (10, [2, 3]), ["k"])
        self.check(SQUARE, tolls, "a", "d", (10, [2, 3]), ["l"])
        self.check(SQUARE, tolls, "a", "d", (2, [0, 1]), ["m", "n", "o"])
        self.check(SQUARE, tolls, "a", "b", (11, [2, 3, 1]), ["k"])

    def test_one_shut_gate_shuts_its_road(self):
        roads = Roads([("a", "b", ("k", "l", "m")), ("a", "b", ("n",))])
        for gate in "klm":
            self.check(roads, tolls_of(k=0, l=0, m=0, n=9), "a", "b", (9, [1]), [gate])
        self.check(roads, tolls_of(k=0, l=0, m=0, n=9), "a", "b", None, ["l", "n"])

    def test_a_gate_shut_several_times(self):
        tolls = tolls_of(k=1, l=1, m=5, n=5, o=1)
        self.check(SQUARE, tolls, "a", "d", (10, [2, 3]), ["k", "k", "o", "k"])

    def test_shut_left_out_and_none(self):
        tolls = tolls_of(k=1, l=1, m=5, n=5, o=1)
        expected = (2, [0, 1])
        self.assertEqual(least_way(SQUARE, tolls, "a", "d"), expected)
        self.assertEqual(least_way(SQUARE, tolls, "a", "d", None), expected)
        self.assertEqual(least_way(SQUARE, tolls, "a", "d", shut=None), expected)
        self.assertEqual(least_way(SQUARE, tolls, "a", "d", shut=["k"]), (10, [2, 3]))

    def test_tolls_in_any_order(self):
        tolls = tolls_of(k=1, l=5, m=2, n=3, o=4)
        chance = random.Random(41)
        for _ in range(20):
            chance.shuffle(tolls)
            self.check(SQUARE, tolls, "a", "d", (5, [2, 3]))

    def test_a_line_of_eight_places_whatever_the_roads_order(self):
        chance = random.Random(42)
        line = [("abcdefgh"[at], "abcdefgh"[at + 1], ("klmnopq"[at],)) for at in range(7)]
        for _ in range(30):
            rows = line + [("a", "h", ("r", "s", "t"))]
            chance.shuffle(rows)
            roads = Roads(rows)
            tolls = [(gate, GREAT) for gate in "rst"] + [(gate, 1) for gate in "klmnopq"]
            self.check(roads, tolls, "a", "h", (7, [rows.index(row) for row in line]))
            self.check(roads, tolls, "h", "a", (7, [rows.index(row) for row in line[::-1]]))
            self.check(roads, tolls, "a", "h", (3 * GREAT, [rows.index(("a", "h", ("r", "s", "t")))]), ["n"])

    def test_great_pence(self):
        self.check(SQUARE, tolls_of(k=GREAT, l=GREAT, m=GREAT, n=GREAT - 1, o=0), "a", "d", (2 * GREAT - 1, [2, 3]))
        self.check(SQUARE, tolls_of(k=GREAT, l=GREAT - 1, m=GREAT, n=GREAT, o=0), "a", "d", (2 * GREAT - 1, [0, 1]))

    def test_compared_with_all_ways(self):
        chance = random.Random(43)
        found = {True: 0, False: 0}
        for _ in range(700):
            roads = some_roads(chance)
            tolls, shut = some_tolls(chance, roads), some_shut(chance, roads)
            one, other = chance.choice(roads.places()), chance.choice(roads.places())
            ways = all_ways(roads, tolls, one, other, shut)
            found[bool(ways)] += 1
            expected = (min(ways)[0], min(ways)[2]) if ways else None
            with self.subTest(rows=roads.rows(), tolls=tolls, one=one, other=other, shut=shut):
                self.check(roads, tolls, one, other, expected, shut)
        self.assertGreater(min(found.values()), 100)

    def test_what_is_handed_in_stays(self):
        tolls, shut, rows = tolls_of(k=1, l=1, m=5, n=5, o=1), ["k", "k"], SQUARE.rows()
        least_way(SQUARE, tolls, "a", "d", shut)
        least_tolls(SQUARE, tolls, "a", shut)
        self.assertEqual(tolls, tolls_of(k=1, l=1, m=5, n=5, o=1))
        self.assertEqual(shut, ["k", "k"])
        self.assertEqual(SQUARE.rows(), rows)

    def test_told_lists_are_the_askers_own(self):
        tolls = tolls_of(k=1, l=1, m=5, n=5, o=1)
        for one, other in (("a", "d"), ("a", "a")):
            told, again = least_way(SQUARE, tolls, one, other), least_way(SQUARE, tolls, one, other)
            kept = list(again[1])
            self.assertIsNot(told[1], again[1])
            told[1].append(99)
            self.assertEqual(again[1], kept)
            self.assertEqual(least_way(SQUARE, tolls, one, other)[1], kept)

    def test_arguments_by_their_names(self):
        tolls = tolls_of(k=1, l=1, m=5, n=5, o=1)
        self.assertEqual(least_way(roads=SQUARE, tolls=tolls, one="a", other="d", shut=["k"]), (10, [2, 3]))
        self.assertEqual(least_way(shut=None, other="d", one="a", tolls=tolls, roads=SQUARE), (2, [0, 1]))


class LeastTolls(unittest.TestCase):
    def test_some(self):
        tolls = tolls_of(k=1, l=5, m=2, n=3, o=4)
        self.assertEqual(least_tolls(SQUARE, tolls, "a"), [("a", 0), ("b", 1), ("c", 2), ("d", 5)])
        self.assertEqual(least_tolls(SQUARE, tolls, "d"), [("a", 5), ("b", 5), ("c", 3), ("d", 0)])

    def test_rising_whatever_the_roads_order(self):
        roads = Roads([("z", "b", ("k",)), ("m", "z", ("l",)), ("a", "m", ())])
        self.assertEqual(least_tolls(roads, tolls_of(k=1, l=2), "z"), [("a", 2), ("b", 1), ("m", 2), ("z", 0)])

    def test_without_places_to_which_there_is_no_way(self):
        tolls = tolls_of(k=1, l=5, m=2, n=3, o=4)
        self.assertEqual(least_tolls(SQUARE, tolls, "x"), [("x", 0), ("y", 4)])
        self.assertEqual(least_tolls(SQUARE, tolls, "y", ["o"]), [("y", 0)])
        self.assertEqual(least_tolls(SQUARE, tolls, "a", ["k", "l"]), [("a", 0), ("c", 2), ("d", 5)])

    def test_shut_left_out_none_and_by_its_name(self):
        tolls = tolls_of(k=1, l=5, m=2, n=3, o=4)
        for told in (least_tolls(SQUARE, tolls, "x"), least_tolls(SQUARE, tolls, "x", None),
                     least_tolls(SQUARE, tolls, "x", []), least_tolls(SQUARE, tolls, "x", shut=["k", "k"]),
                     least_tolls(shut=None, one="x", tolls=tolls, roads=SQUARE)):
            self.assertEqual(told, [("x", 0), ("y", 4)])
            self.assertIs(type(told), list)
            self.assertIs(type(told[0]), tuple)

    def test_compared_with_all_ways(self):
        chance = random.Random(44)
        for _ in range(300):
            roads = some_roads(chance)
            tolls, shut = some_tolls(chance, roads), some_shut(chance, roads)
            one = chance.choice(roads.places())
            ways = {place: all_ways(roads, tolls, one, place, shut) for place in roads.places()}
            expected = [(place, min(ways[place])[0]) for place in roads.places() if ways[place]]
            self.assertEqual(least_tolls(roads, tolls, one, shut), expected)

    def test_told_lists_are_the_askers_own(self):
        tolls = tolls_of(k=1, l=5, m=2, n=3, o=4)
        told, again = least_tolls(SQUARE, tolls, "x"), least_tolls(SQUARE, tolls, "x")
        self.assertIsNot(told, again)
        told.clear()
        self.assertEqual(again, [("x", 0), ("y", 4)])
        self.assertEqual(least_tolls(SQUARE, tolls, "x"), [("x", 0), ("y", 4)])


class NoTolls(unittest.TestCase):
    def test_each_gate_once(self):
        roads = Roads([("a", "b", ("l", "k")), ("b", "c", ())])
        self.assertEqual(sorted(no_tolls(roads)), [("k", 0), ("l", 0)])
        self.assertEqual(least_way(roads, no_tolls(roads), "a", "c"), (0, [0, 1]))
        self.assertEqual(no_tolls(Roads([])), [])


if __name__ == "__main__":
    unittest.main()
