"""What the questions for the worst ask, looked through."""

from ringdown.errors import OutOfPlace
from ringdown.tree import MOST_PEOPLE, away_or_nobody, is_bell, need_name, need_tree
from ringdown.treeparts import TreeParts
from ringdown.words import is_among

MEASURES = ("last", "quiet", "lost", "told")
MOST_NUMBER = 99999


class Search:
    """A question for the WORST of a TREE by at most so many away ones."""

    def __init__(self, tree, many, which, name, sure):
        self.from_tree = tree
        self.parts = TreeParts(tree)
        self.many = many
        self.which = which
        self.asked = name
        self.sure = sure


def need_many(many):
    """Nothing of a number of away ones, else OutOfPlace."""
    if not is_among(many, 0, MOST_PEOPLE):
        raise OutOfPlace("no whole number from 0 to 16")


def need_least(least):
    """Nothing of a number that a MEASURE is to come to, else OutOfPlace."""
    if not is_among(least, 0, MOST_NUMBER):
        raise OutOfPlace("no whole number from 0 to 99,999")


def need_measure(tree, which, name):
    """Nothing of a MEASURE, and of a NAME beside "told" alone; else OutOfPlace or NoName."""
    if not isinstance(which, str) or which not in MEASURES:
        raise OutOfPlace("no measure")
    if which == "told":
        need_name(tree, name)
    elif not is_bell(name):
        raise OutOfPlace("a name that this measure doesn't ask for")


def search_of(tree, many, which, name, sure):
    """The question, its numbers being looked through already; refused is what is no MEASURE, NAME or SURE."""
    need_tree(tree)
    need_measure(tree, which, name)
    return Search(tree, many, which, name, away_or_nobody(tree, sure))


def may_be_away(search, name):
    """Whether a NAME may be away."""
    return name not in search.sure and name != search.asked
