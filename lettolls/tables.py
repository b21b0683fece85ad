"""Tables of tolls: what a load of a kind, of so many units, pays."""

from lettolls.plain import is_name, is_within, number_in

MOST_ROWS = 8
ROW_PARTS = 6
MOST_UNITS = 10 ** 9
MOST_PENCE = 10 ** 6
MOST_PER = 12
# what a load pays by that no row of a table has: any kind, from 0 without an end, for nothing
NO_ROW = ("", 0, None, 0, 0, 1)


def is_end(thing, least):
    """Whether anything may be the most of a row of this least."""
    return thing is None or is_within(thing, least, MOST_UNITS)


def is_row(thing):
    if not isinstance(thing, tuple) or len(thing) != ROW_PARTS:
        return False
    kind, least, most, pence, each, per = thing
    if not is_name(kind) and kind != "":
        return False
    if not is_within(least, 0, MOST_UNITS) or not is_end(most, least):
        return False
    return is_within(pence, 0, MOST_PENCE) and is_within(each, 0, MOST_PENCE) and is_within(per, 1, MOST_PER)


def is_table(thing):
    """Whether anything is a table."""
    if not isinstance(thing, tuple) or len(thing) > MOST_ROWS:
        return False
    return all([is_row(row) for row in thing])


def has_load(row, kind, units):
    if row[0] != "" and row[0] != kind:
        return False
    return row[1] <= units and (row[2] is None or units <= row[2])


def row_for(table, kind, units):
    """The first row of the table that has the load, NO_ROW where none has."""
    for row in table:
        if has_load(row, kind, units):
            return row
    return NO_ROW


def row_toll(row, units):
    """What so many units pay by this row."""
    pence, each, per = row[3:]
    # one less than per makes the rounding down one up
    return pence + each * ((units + per - 1) // per)


def toll_of(table, kind, units):
    """What a load pays by the table, 0 where no row has it."""
    return row_toll(row_for(table, kind, units), units)


def row_text(row):
    kind, least, most, pence, each, per = row
    words = [kind or "*", str(least), "-" if most is None else str(most), str(pence), str(each), str(per)]
    return " ".join(words)


def table_text(table):
    if not table:
        return "-"
    return " ; ".join([row_text(row) for row in table])


def row_in(text):
    """What a text would tell as a row, with None for what is no number in it, and maybe too few or many parts."""
    words = text.split(" ")
    kind = "" if words[0] == "*" else words[0]
    numbers = [number_in(word, MOST_UNITS) for word in words[1:]]
    return (kind, *numbers)


def table_in(text):
    """The table whose text it is, None where there's none."""
    if text == "-":
        return ()
    table = tuple([row_in(part) for part in text.split(" ; ")])
    if not is_table(table):
        return None
    # an empty word for *, and any other word for the - of no end, are told otherwise by table_text
    return table if table_text(table) == text else None
