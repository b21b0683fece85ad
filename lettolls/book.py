"""A book of entries, put and struck, with deeds that can be undone."""

from lettolls.days import runs_of
from lettolls.entries import in_order, is_entry
from lettolls.errors import BadEntry, Full, NoDeed, NoEntry, Twice
from lettolls.holding import Held
from lettolls.roads import Roads
from lettolls.rolls import roll_text

MOST_ENTRIES = 100


def changes_of(gate, before, now):
    """The list of (gate, first, last, holder before, holder now) of the days on which these are unlike."""
    firsts = [first for first, last, holder in before.stretches(gate) + now.stretches(gate)]
    marks = [(day, (before.holder(gate, day), now.holder(gate, day))) for day in sorted(set(firsts))]
    return [(gate, first, last, *pair) for first, last, pair in runs_of(marks) if pair[0] != pair[1]]


class Book:
    """Entries of roads, by deeds: each of them a put or a strike."""

    def __init__(self, roads):
        self.own_roads = Roads(roads.rows())
        self.by_number = {}
        # pairs (whether it was a put, its entry)
        self.deed_list = []

    def change(self, is_put, entry):
        """Puts an entry, or takes it away."""
        if is_put:
            self.by_number[entry[0]] = entry
        else:
            del self.by_number[entry[0]]

    def do(self, is_put, entry):
        """Does a deed."""
        self.change(is_put, entry)
        self.deed_list.append((is_put, entry))

    def put(self, entry):
        if not is_entry(self.own_roads, entry):
            raise BadEntry("this is no entry of these roads")
        if entry[0] in self.by_number:
            raise Twice(entry[0])
        if len(self.by_number) >= MOST_ENTRIES:
            raise Full(len(self.by_number))
        self.do(True, entry)

    def strike(self, number):
        if number not in self.by_number:
            raise NoEntry(number)
        self.do(False, self.by_number[number])

    def undo(self):
        if not self.deed_list:
            raise NoDeed(0)
        is_put, entry = self.deed_list.pop()
        self.change(not is_put, entry)

    def deeds(self):
        return len(self.deed_list)

    def after(self, many):
        if many > len(self.deed_list):
            raise NoDeed(many)
        book = Book(self.own_roads)
        for is_put, entry in self.deed_list[:many]:
            book.do(is_put, entry)
        return book

    def twin(self):
        return self.after(self.deeds())

    def entries(self):
        return in_order(list(self.by_number.values()))

    def held(self):
        return Held(self.own_roads, self.entries())

    def told_late(self, entry):
        before = self.held()
        self.put(entry)
        now = self.held()
        return [row for gate in self.own_roads.gates() for row in changes_of(gate, before, now)]

    def __len__(self):
        return len(self.by_number)

    def __eq__(self, other):
        return isinstance(other, Book) and self.own_roads == other.own_roads and self.by_number == other.by_number

    def __str__(self):
        return str(roll_text(self.entries()))
