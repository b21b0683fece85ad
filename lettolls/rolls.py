"""Entries as text, a row each, and read from it."""

from lettolls.entries import BOUNDS, MOST_WEIGHT, PARTS, is_entry, part_kinds
from lettolls.errors import BadRow, Twice
from lettolls.plain import number_in
from lettolls.tables import table_in, table_text

# the kinds of parts that are not told by just one word
WIDE = ("sureties", "table")


def entry_text(entry):
    words = []
    for part in entry:
        if not isinstance(part, tuple):
            words.append(str(part))
        elif entry[2] == "table":
            words.append(table_text(part))
        else:
            words.extend([str(side) for pair in part for side in pair])
    return " ".join(words)


def roll_text(entries):
    return "\n".join([entry_text(entry) for entry in entries])


def part_in(kind, word):
    """What a word tells as a part of this kind, None where it should be a number and isn't."""
    if kind in BOUNDS:
        return number_in(word, BOUNDS[kind][1])
    return word


def sureties_in(words):
    """The pairs (name, weight) that words tell."""
    return tuple([(words[at], number_in(words[at + 1], MOST_WEIGHT)) for at in range(0, len(words) - 1, 2)])


def parts_in(words):
    """What words, of which the third one is an entry's word, would tell as an entry, maybe with too few parts."""
    kinds = part_kinds(words[2])
    narrow = [kind for kind in kinds if kind not in WIDE]
    parts = [part_in(kind, word) for kind, word in zip(narrow, words)]
    rest = words[len(narrow):]
    if "sureties" in kinds:
        parts.append(sureties_in(rest))
    if "table" in kinds:
        parts.append(table_in(" ".join(rest)))
    return tuple(parts)


def entry_in(roads, row):
    """The entry of roads whose text a row is, None where there's none."""
    words = row.split(" ")
    if len(words) < 3 or words[2] not in PARTS:
        return None
    entry = parts_in(words)
    # words too many are told by no part, so they are missing in the entry's text
    return entry if is_entry(roads, entry) and entry_text(entry) == row else None


def read_roll(roads, text):
    """The list of entries, row by row; refused with BadRow or Twice for the first row that can't stand."""
    entries = []
    for at, row in enumerate(text.split("\n")):
        if row == "":
            continue
        entry = entry_in(roads, row)
        if entry is None:
            raise BadRow(at)
        if entry[0] in [told[0] for told in entries]:
            raise Twice(entry[0])
        entries.append(entry)
    return entries
