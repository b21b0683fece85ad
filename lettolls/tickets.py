"""Tickets: a load's number, and how many gates it has passed, as text."""

SIGNS = "0123456789ABCDEF"
MANY_SIGNS = 5
MOST_NUMBER = 9999
MOST_AT = 9


def ticket_text(number, at):
    return f"{16 * number + at:05X}"


def ticket_in(text):
    """The pair (number, at) of which the text is the ticket, None where there's none."""
    if len(text) != MANY_SIGNS or not all([sign in SIGNS for sign in text]):
        return None
    whole = 0
    for sign in text:
        whole = 16 * whole + SIGNS.index(sign)
    number, at = divmod(whole, 16)
    if not 1 <= number <= MOST_NUMBER or at > MOST_AT:
        return None
    return (number, at)
