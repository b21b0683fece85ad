"""What the program refuses with: one class for each kind of refusal."""


class TollError(ValueError):
    """What is handed in can't be taken."""


class BadEntry(TollError):
    """A thing is no entry; words say why."""

    def __init__(self, words):
        TollError.__init__(self, words)
        self.words = words


class BadRow(TollError):
    """A row of a text isn't written as it should be."""

    def __init__(self, row):
        TollError.__init__(self, f"row {row} is not written as it should be")
        self.row = row


class Twice(TollError):
    """A number stands already."""

    def __init__(self, number):
        TollError.__init__(self, f"number {number} stands already")
        self.number = number


class Full(TollError):
    """There are as many entries as there can be."""

    def __init__(self, many):
        TollError.__init__(self, f"there are {many} entries already")
        self.many = many


class NoGate(KeyError):
    """There is no such gate."""

    def __init__(self, gate):
        KeyError.__init__(self, f"no gate {gate}")
        self.gate = gate


class NoEntry(LookupError):
    """There is no entry of this number."""

    def __init__(self, number):
        LookupError.__init__(self, f"no entry {number}")
        self.number = number


class NoLease(LookupError):
    """There is no such lease."""

    def __init__(self, lease):
        LookupError.__init__(self, f"no lease {lease}")
        self.lease = lease


class NoDeed(IndexError):
    """There are not so many deeds."""

    def __init__(self, many):
        IndexError.__init__(self, f"there are not so many deeds: {many}")
        self.many = many


class NoShare(ZeroDivisionError):
    """Nothing can be split by weights that are 0 together."""

    def __init__(self, many):
        ZeroDivisionError.__init__(self, f"{many} weights are 0 together")
        self.many = many
