"""Roads read from their text."""

from lettolls.errors import BadRow
from lettolls.plain import is_name
from lettolls.roads import Roads

MOST_ROADS = 8
MOST_PLACES = 8
MOST_GATES = 10


def road_in(row):
    """The road that a row tells, None where it isn't written as a road's."""
    words = row.split(" ")
    if words[0] != "road" or len(words) < 3:
        return None
    if not all([is_name(word) for word in words[1:]]):
        return None
    return (words[1], words[2], tuple(words[3:]))


def can_stand(ahead, road):
    """Whether a road may stand behind the roads ahead, which may stand themselves."""
    roads = Roads([*ahead, road])
    gates = roads.gates()
    if road[0] == road[1] or len(set(gates)) < len(gates):
        return False
    return len(roads) <= MOST_ROADS and len(roads.places()) <= MOST_PLACES and len(gates) <= MOST_GATES


def read_roads(text):
    """The Roads whose text it is; refused with BadRow of the first row that can't stand."""
    # split would tell one empty row of the empty text, which is that of no roads
    rows = text.split("\n") if text else []
    roads = []
    for at, row in enumerate(rows):
        road = road_in(row)
        if road is None or not can_stand(roads, road):
            raise BadRow(at)
        roads.append(road)
    return Roads(roads)
