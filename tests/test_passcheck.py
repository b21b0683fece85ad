import itertools
import random
import unittest

from lettolls.passcheck import shows_least
from lettolls.passing import least_tolls, least_way
from lettolls.roads import Roads
from nets import GREAT, open_tolls, some_roads, some_shut, some_tolls
from things import THINGS, some_thing, with_part

SQUARE = Roads([("a", "b", ("k",)), ("b", "d", ("l",)), ("a", "c", ("m",)), ("c", "d", ("n",)), ("x", "y", ("o",))])
TOLLS = [("k", 1), ("l", 5), ("m", 2), ("n", 3), ("o", 4)]
WAY = [2, 3]
HEIGHTS = [("a", 0), ("b", 1), ("c", 2), ("d", 5)]


def is_plain_number(thing):
    return type(thing) is int and thing >= 0


def shown(roads, tolls, one, other, way, heights, shut):
    """Whether it is shown, reckoned without the program."""
    tolls_of, rows = open_tolls(roads, tolls, shut), roads.rows()
    place, toll = one, 0
    for at in way if type(way) is list else [None]:
        if type(at) is not int or at not in tolls_of or place not in rows[at][:2]:
            return False
        toll += tolls_of[at]
        place = (set(rows[at][:2]) - {place}).pop()
    if place != other or type(heights) is not list:
        return False
    if not all(type(pair) is tuple and len(pair) == 2 and type(pair[0]) is str and is_plain_number(pair[1])
               for pair in heights):
        return False
    numbers = dict(heights)
    if len(numbers) != len(heights) or not set(numbers) <= set(roads.places()):
        return False
    if numbers.get(one) != 0 or numbers.get(other) != toll:
        return False
    for at, road_toll in tolls_of.items():
        near, far = numbers.get(rows[at][0]), numbers.get(rows[at][1])
        if (near is None) != (far is None):
            return False
        if near is not None and (near > far + road_toll or far > near + road_toll):
            return False
    return True


class ShowsLeast(unittest.TestCase):
    def check(self, expected, way=WAY, heights=HEIGHTS, one="a", other="d", shut=None, tolls=TOLLS):
        with self.subTest(way=way, heights=heights, shut=shut):
            self.assertIs(shows_least(SQUARE, tolls, one, other, way, heights, shut), expected)

    def test_takes_the_least_way_with_the_least_tolls(self):
        self.check(True)
        self.check(True, [3, 2], [("a", 5), ("b", 5), ("c", 3), ("d", 0)], "d", "a")

    def test_heights_in_any_order(self):
        for heights in itertools.permutations(HEIGHTS):
            self.check(True, heights=list(heights))

    def test_heights_of_places_to_which_no_way_leads(self):
        self.check(True, heights=HEIGHTS + [("x", 0), ("y", 0)])
        self.check(True, heights=[("y", 7)] + HEIGHTS + [("x", 3)])
        self.check(True, heights=HEIGHTS + [("x", 10 ** 20), ("y", 10 ** 20 + 4)])
        self.check(False, heights=HEIGHTS + [("x", 10 ** 20), ("y", 10 ** 20 + 5)])
        self.check(False, heights=HEIGHTS + [("x", 5), ("y", 0)])
        self.check(False, heights=HEIGHTS + [("x", 0)])
        self.check(False, heights=HEIGHTS + [("y", 0)])
        self.check(True, heights=HEIGHTS + [("x", 0)], shut=["o"])

    def test_other_heights_that_show_it_too(self):
        self.check(True, heights=[("a", 0), ("b", 0), ("c", 2), ("d", 5)])
        self.check(False, heights=[("a", 0), ("b", 2), ("c", 2), ("d", 5)])

    def test_from_a_place_to_itself(self):
        self.check(True, [], HEIGHTS, "a", "a")
        self.check(True, [], [("a", 0), ("b", 0), ("c", 0), ("d", 0)], "a", "a")
        self.check(False, [0, 0], HEIGHTS, "a", "a")
        self.check(False, [], [], "a", "a")
        self.check(True, [], [("x", 0)], "x", "x", ["o"])

    def test_a_way_round_for_nothing_is_of_the_least_toll_too(self):
        tolls = [("k", 0), ("l", 0), ("m", 0), ("n", 0), ("o", 0)]
        flat = [("a", 0), ("b", 0), ("c", 0), ("d", 0)]
        for way in ([], [0, 0], [0, 1, 3, 2], [2, 3, 1, 0, 2, 2]):
            self.check(True, way, flat, "a", "a", tolls=tolls)
        for way in ([0, 1], [2, 3], [0, 0, 0, 1]):
            self.check(True, way, flat, "a", "d", tolls=tolls)

    def test_a_way_of_more_toll(self):
        self.check(False, [0, 1])
        self.check(False, [0, 1], [("a", 0), ("b", 1), ("c", 2), ("d", 6)])
        self.check(False, [2, 3, 3, 3], HEIGHTS)
        self.check(False, [2, 3, 3, 3], [("a", 0), ("b", 1), ("c", 2), ("d", 11)])

    def test_a_way_that_doesnt_lead_on(self):
        for way in ([3, 2], [3], [2, 1], [0, 3], [2, 4], [4], [4, 2, 3], [2, 3, 4], [1, 1], [2, 0, 3]):
            self.check(False, way)
            self.check(False, way, HEIGHTS + [("x", 0), ("y", 0)])

    def test_a_way_that_doesnt_lead_on_but_has_the_right_toll(self):
        for rows in itertools.product([("a", "b", ("k",)), ("b", "a", ("k",))], [("d", "b", ("l",)), ("b", "d", ("l",))]):
            tolls, heights = [("k", 0), ("l", 5)], [("a", 0), ("b", 0), ("d", 5)]
            for way, expected in (([0, 1], True), ([1], False), ([1, 0], False), ([0, 0, 1], False)):
                self.assertIs(shows_least(Roads(list(rows)), tolls, "a", "d", way, heights), expected)

    def test_a_way_to_another_place(self):
        for way in ([], [2], [0], [2, 3, 3], [2, 3, 1]):
            self.check(False, way)
        self.check(False, WAY, HEIGHTS, "a", "c")
        self.check(False, WAY, HEIGHTS, "b", "d")

    def test_a_way_by_roads_that_there_arent(self):
        for way in ([5], [2, 5], [-1], [2, -2], [-3, -2], [2, 10 ** 30], [2, 3, 5]):
            self.check(False, way)

    def test_a_way_over_a_shut_road(self):
        for shut in (["m"], ["n"], ["m", "n"], ["n", "n", "o"]):
            self.check(False, shut=shut)
        self.check(True, shut=["k"])
        self.check(True, shut=["l", "l"])

    def test_shut_roads_bind_no_heights(self):
        self.check(False, [0, 1], [("a", 0), ("b", 1), ("c", 2), ("d", 6)])
        self.check(True, [0, 1], [("a", 0), ("b", 1), ("c", 2), ("d", 6)], shut=["n"])
        self.check(True, [0, 1], [("a", 0), ("b", 1), ("c", 3), ("d", 6)], shut=["m"])
        self.check(True, [0, 1], [("a", 0), ("b", 1), ("d", 6)], shut=["m", "n"])
        self.check(False, [0, 1], [("a", 0), ("b", 1), ("d", 6)], shut=["n"])

    def test_shut_left_out(self):
        self.assertIs(shows_least(SQUARE, TOLLS, "a", "d", WAY, HEIGHTS), True)
        self.assertIs(shows_least(SQUARE, TOLLS, "a", "d", WAY, HEIGHTS, []), True)

    def test_each_bound_broken_by_one_penny(self):
        tolls = [("k", 3), ("l", 3), ("m", 3), ("n", 3), ("o", 3)]
        self.check(True, [0, 1], [("a", 0), ("b", 3), ("c", 3), ("d", 6)], tolls=tolls)
        for number, expected in ((2, False), (4, False), (3, True)):
            self.check(expected, [0, 1], [("a", 0), ("b", number), ("c", 3), ("d", 6)], tolls=tolls)
            self.check(expected, [0, 1], [("a", 0), ("b", 3), ("c", number), ("d", 6)], tolls=tolls)
        for number in (5, 7):
            self.check(False, [0, 1], [("a", 0), ("b", 3), ("c", 3), ("d", number)], tolls=tolls)
        # up and down a road beside the way
        tolls = [("k", 9), ("l", 9), ("m", 9), ("n", 9), ("o", 2)]
        for left, right in ((5, 7), (7, 5), (0, 2), (2, 0), (4, 4)):
            heights = [("a", 0), ("b", 9), ("c", 9), ("d", 18), ("x", left), ("y", right)]
            self.check(True, [0, 1], heights, tolls=tolls)
        for left, right in ((5, 8), (8, 5), (0, 3), (3, 0)):
            heights = [("a", 0), ("b", 9), ("c", 9), ("d", 18), ("x", left), ("y", right)]
            self.check(False, [0, 1], heights, tolls=tolls)

    def test_ones_number_isnt_0(self):
        self.check(False, heights=[("a", 1), ("b", 1), ("c", 2), ("d", 5)])
        self.check(False, heights=[("a", 1), ("b", 2), ("c", 3), ("d", 6)])

    def test_others_number_isnt_the_ways_toll(self):
        for number in (0, 4, 6):
            self.check(False, heights=[("a", 0), ("b", 0), ("c", 2), ("d", number)])

    def test_a_place_missing(self):
        for at in range(4):
            self.check(False, heights=HEIGHTS[:at] + HEIGHTS[at + 1:])
        self.check(False, heights=[])
        # without the roads that lead there, one and other must be there themselves
        self.check(False, [], [], "a", "a", ["k", "l", "m", "n"])
        self.check(False, [], [("b", 0)], "a", "a", ["k", "l", "m", "n"])
        self.check(True, [], [("a", 0)], "a", "a", ["k", "l", "m", "n"])

    def test_a_place_twice(self):
        for pair in HEIGHTS:
            self.check(False, heights=HEIGHTS + [pair])
        self.check(False, heights=[("b", 0)] + HEIGHTS)
        self.check(False, heights=HEIGHTS + [("x", 0), ("y", 0), ("x", 0)])

    def test_a_place_that_there_isnt(self):
        for place in ("e", "k", "", "ab", "A", None, 0, 1, True, (), [], ["a"], ("a",)):
            self.check(False, heights=HEIGHTS + [(place, 0)])

    def test_a_number_below_0(self):
        self.check(False, heights=[("a", 0), ("b", -1), ("c", 2), ("d", 5)])
        self.check(True, heights=[("a", 0), ("b", 0), ("c", 2), ("d", 5)])
        self.check(False, heights=HEIGHTS + [("x", -1), ("y", 0)])
        self.check(False, heights=HEIGHTS + [("x", -5), ("y", -5)])

    def test_true_and_false_for_a_number(self):
        self.check(False, heights=[("a", False), ("b", 1), ("c", 2), ("d", 5)])
        self.check(False, heights=[("a", 0), ("b", True), ("c", 2), ("d", 5)])
        self.check(False, heights=HEIGHTS + [("x", False), ("y", False)])
        tolls = [("k", 1), ("l", 0), ("m", 2), ("n", 3), ("o", 4)]
        low = [("a", 0), ("b", 1), ("c", 2), ("d", 1)]
        self.check(True, [0, 1], low, tolls=tolls)
        self.check(False, [0, 1], low[:3] + [("d", True)], tolls=tolls)
        self.check(False, [False, 1], low, tolls=tolls)
        self.check(False, [0, True], low, tolls=tolls)

    def test_heights_that_are_no_list_of_pairs(self):
        self.check(False, heights=tuple(HEIGHTS))
        self.check(False, heights=dict(HEIGHTS))
        self.check(False, heights=[list(pair) for pair in HEIGHTS])
        self.check(False, heights=HEIGHTS + [()])
        self.check(False, heights=HEIGHTS + [("x",)])
        self.check(False, heights=[pair + (0,) for pair in HEIGHTS])
        self.check(False, heights=[("a", 0, 0)] + HEIGHTS[1:])
        self.check(False, heights=HEIGHTS + ["x0"])
        self.check(False, heights=HEIGHTS + ["x"])

    def test_a_way_that_is_no_list(self):
        self.check(False, way=tuple(WAY))
        self.check(False, way="23")
        self.check(False, (), HEIGHTS, "a", "a")
        self.check(False, "", HEIGHTS, "a", "a")
        self.check(False, None, HEIGHTS, "a", "a")
        self.check(False, way=[[2], [3]])
        self.check(False, way=["2", "3"])

    def test_things_of_any_make(self):
        for thing in THINGS:
            self.check(False, way=thing)
            self.check(False, heights=thing)
            self.check(False, thing, thing)
            self.check(False, way=[2, thing])
            self.check(False, heights=HEIGHTS + [thing])

    def test_things_of_any_make_in_heights(self):
        for thing in THINGS:
            for at, (place, number) in enumerate(HEIGHTS):
                for part in (thing, (thing, number), (place, thing)):
                    heights = with_part(HEIGHTS, at, part)
                    self.check(shown(SQUARE, TOLLS, "a", "d", WAY, heights, None), heights=heights)

    def test_any_things(self):
        chance = random.Random(51)
        for _ in range(1500):
            way, heights = some_thing(chance), some_thing(chance)
            expected = shown(SQUARE, TOLLS, "a", "a", way, heights, None)
            self.check(expected, way, heights, "a", "a")
            self.check(False, way=way)
            self.check(False, heights=heights)

    def test_any_roads(self):
        chance = random.Random(52)
        taken = 0
        for _ in range(600):
            roads = some_roads(chance)
            tolls, shut = some_tolls(chance, roads), some_shut(chance, roads)
            one, other = chance.choice(roads.places()), chance.choice(roads.places())
            told = least_way(roads, tolls, one, other, shut)
            heights = least_tolls(roads, tolls, one, shut)
            if told is None:
                continue
            taken += 1
            chance.shuffle(heights)
            self.assertIs(shows_least(roads, tolls, one, other, told[1], heights, shut), True)
            self.check_changed(chance, (roads, tolls, one, other), told[1], heights, shut)
        self.assertGreater(taken, 200)

    def check_changed(self, chance, asked, way, heights, shut):
        """Takes what is changed by a little just where it shows it still."""
        for _ in range(8):
            at = chance.randrange(len(heights))
            number = heights[at][1] + chance.choice([-1, 1, 0, GREAT])
            changed = with_part(heights, at, (heights[at][0], number))
            other_way = list(way)
            if way and chance.random() < 0.3:
                del other_way[chance.randrange(len(way))]
            if chance.random() < 0.3:
                other_way.insert(chance.randint(0, len(other_way)), chance.randrange(len(asked[0])))
            if chance.random() < 0.3:
                del changed[chance.randrange(len(changed))]
            expected = shown(*asked, other_way, changed, shut)
            self.assertIs(shows_least(*asked, other_way, changed, shut), expected)

    def test_a_way_that_isnt_least_is_never_shown(self):
        # every heights to 7 for a ring of three places
        roads, tolls = Roads([("a", "b", ("k",)), ("b", "c", ("l",)), ("a", "c", ("m",))]), [("k", 1), ("l", 2), ("m", 5)]
        for numbers in itertools.product(range(7), repeat=3):
            heights = list(zip("abc", numbers))
            self.assertIs(shows_least(roads, tolls, "a", "c", [2], heights), False)
            self.assertIs(shows_least(roads, tolls, "a", "c", [0, 1], heights), numbers == (0, 1, 3))

    def test_what_is_handed_in_stays(self):
        tolls, way, heights, shut = list(TOLLS), list(WAY), list(HEIGHTS), ["k", "k"]
        shows_least(SQUARE, tolls, "a", "d", way, heights, shut)
        self.assertEqual((tolls, way, heights, shut), (TOLLS, WAY, HEIGHTS, ["k", "k"]))

    def test_arguments_by_their_names(self):
        self.assertIs(shows_least(roads=SQUARE, tolls=TOLLS, one="a", other="d", way=WAY, heights=HEIGHTS, shut=None),
                      True)
        self.assertIs(shows_least(shut=["m"], heights=HEIGHTS, way=WAY, other="d", one="a", tolls=TOLLS, roads=SQUARE),
                      False)


if __name__ == "__main__":
    unittest.main()
