"""The BOOK of a RINGING: what it was made with, and what was done to it."""

from ringdown.plantext import plan_text
from ringdown.treetext import bell_or_name
from ringdown.words import clock_text


def word_handed(thing):
    """The word for what was handed in to a deed."""
    return bell_or_name(thing) if isinstance(thing, str) else str(thing)


def deed_row(deed):
    """The row of a deed."""
    handed = [word_handed(thing) for thing in deed[2:]]
    return " ".join([clock_text(deed[0]), deed[1]] + handed)


def book_text(ringing):
    """The BOOK of a RINGING."""
    tree, away = ringing.first()
    rows = [plan_text(tree, away)] + [deed_row(deed) for deed in ringing.deeds()]
    return "\n".join(rows + [f"{clock_text(ringing.now())} now"])
