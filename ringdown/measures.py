"""What the questions for the worst ask, looked through."""

from ringdown.errors import OutOfPlace
from ringdown.tree import MOST_PEOPLE, is_bell, need_name
from ringdown.words import is_among

MEASURES = ("last", "quiet", "lost", "told")


def need_many(many):
    """Nothing of a number of away ones, else OutOfPlace."""
    if not is_among(many, 0, MOST_PEOPLE):
        raise OutOfPlace("no whole number from 0 to 16")


def need_measure(tree, which, name):
    """Nothing of a MEASURE, and of a NAME beside "told" alone; else OutOfPlace or NoName."""
    if not isinstance(which, str) or which not in MEASURES:
        raise OutOfPlace("no measure")
    if which == "told":
        need_name(tree, name)
    elif not is_bell(name):
        raise OutOfPlace("a name that this measure doesn't ask for")
