"""Roads between places, and the gates on them."""

from lettolls.errors import NoGate


def road_text(row):
    one, other, gates = row
    return " ".join(["road", one, other, *gates])


class Roads:
    """Roads (one, other, gates), numbered from 0 in their order."""

    def __init__(self, rows):
        self.road_list = list(rows)

    def rows(self):
        return list(self.road_list)

    def places(self):
        return sorted({place for row in self.road_list for place in row[:2]})

    def gates(self):
        return sorted([gate for row in self.road_list for gate in row[2]])

    def road_of(self, gate):
        for at, row in enumerate(self.road_list):
            if gate in row[2]:
                return at
        raise NoGate(gate)

    def gates_from(self, first, last):
        road = self.road_of(first)
        if self.road_of(last) != road:
            return ()
        gates = self.road_list[road][2]
        # the slice is empty where last stands ahead of first
        return gates[gates.index(first):gates.index(last) + 1]

    def __len__(self):
        return len(self.road_list)

    def __eq__(self, other):
        return isinstance(other, Roads) and self.road_list == other.road_list

    def __str__(self):
        return "\n".join([road_text(row) for row in self.road_list])
