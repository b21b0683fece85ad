"""Names, numbers and plain figures, which the other files need."""

LETTERS = "abcdefghijklmnopqrstuvwxyz"
FIGURES = "0123456789"
MOST_LETTERS = 8


def is_name(thing):
    """Whether anything is a NAME."""
    if not isinstance(thing, str) or not 1 <= len(thing) <= MOST_LETTERS:
        return False
    return all([sign in LETTERS for sign in thing])


def is_number(thing):
    """Whether anything is a number, maybe below 0."""
    # True and False are whole numbers to Python, but not here
    return isinstance(thing, int) and not isinstance(thing, bool)


def is_within(thing, least, most):
    """Whether anything is a number from least to most."""
    return is_number(thing) and least <= thing <= most


def number_in(word, most):
    """The number, from 0 to most, that a word tells in plain figures; None where it tells none."""
    if word == "" or len(word) > len(str(most)):
        return None
    # int() alone would take signs that are no plain figures, as _ and +
    if not all([sign in FIGURES for sign in word]):
        return None
    number = int(word)
    # a nought ahead is gone when the number is told again
    return number if number <= most and str(number) == word else None
