"""Parts of sums, told to the penny, that are together just the sum."""

from lettolls.errors import NoShare


def part_of(total, many, first, last=None):
    """What falls on the days from first to last of a total that is spread on many days."""
    end = first if last is None else last
    return total * (end + 1) // many - total * first // many


def split_by(total, weights):
    """The parts of a total, one for each weight; refused with NoShare where these are 0 together."""
    whole = sum(weights)
    if whole == 0:
        raise NoShare(len(weights))
    parts = []
    reached = 0
    given = 0
    for weight in weights:
        reached += weight
        part = total * reached // whole - given
        parts.append(part)
        given += part
    return parts
