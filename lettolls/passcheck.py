"""Whether heights of places show that no way has a less toll."""

from lettolls.passing import tolls_by_road
from lettolls.plain import is_number


def end_of(rows, road_tolls, one, way):
    """The place to which a list, maybe of anything, leads from one as a way; None where it is no way."""
    place = one
    for road in way:
        if not is_number(road) or road not in road_tolls:
            return None
        ends = rows[road][:2]
        if place not in ends:
            return None
        place = ends[1] if place == ends[0] else ends[0]
    return place


def heights_in(places, thing):
    """The numbers by their places that anything tells as heights, None where it tells none."""
    if not isinstance(thing, list):
        return None
    found = {}
    for pair in thing:
        if not isinstance(pair, tuple) or len(pair) != 2:
            return None
        place, number = pair
        # what isn't a place may be no key, so this is asked first
        if place not in places or place in found:
            return None
        if not is_number(number) or number < 0:
            return None
        found[place] = number
    return found


def keeps_bounds(numbers, row, toll):
    """Whether a road's places are both there, neither higher than the other one by more than its toll, or neither."""
    one, other = row[:2]
    if one not in numbers and other not in numbers:
        return True
    if one not in numbers or other not in numbers:
        return False
    return abs(numbers[one] - numbers[other]) <= toll


def shows_least(roads, tolls, one, other, way, heights, shut=None):
    """Whether way is a way from one to other, and heights show that there is none of a less toll."""
    rows = roads.rows()
    road_tolls = tolls_by_road(roads, tolls, shut)
    if not isinstance(way, list) or end_of(rows, road_tolls, one, way) != other:
        return False
    numbers = heights_in(roads.places(), heights)
    if numbers is None or one not in numbers or other not in numbers:
        return False
    if numbers[one] != 0 or numbers[other] != sum([road_tolls[road] for road in way]):
        return False
    return all([keeps_bounds(numbers, rows[road], toll) for road, toll in road_tolls.items()])
