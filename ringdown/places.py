"""Where one more may stand in a TREE, and how late it gets by that."""

from ringdown.errors import OutOfPlace, TooGreat
from ringdown.measures import need_many
from ringdown.tree import MOST_PEOPLE, is_talk, names_of
from ringdown.treeparts import TreeParts, put_in, tree_of, walk_below
from ringdown.worst import worst

LETTERS = "abcdefghijklmnopqrstuvwxyz"


def free_name(names):
    """A NAME that none of these is; there are fewer of them than letters."""
    return [letter for letter in LETTERS if letter not in names][0]


def with_one_more(tree, caller, number, talk):
    """The TREE with one more at that place of the caller's LIST."""
    parts = TreeParts(tree)
    put_in(parts, free_name(parts.names), caller, talk, number)
    return tree_of(parts)


def places(tree, talk, many=0):
    """(CALLER, NUMBER, worth) of all PLACEs for one more of that TALK."""
    people = names_of(tree)
    if not is_talk(talk):
        raise OutOfPlace("no talk")
    need_many(many)
    if len(people) == MOST_PEOPLE:
        raise TooGreat("sixteen people stand in the tree already")
    parts = TreeParts(tree)
    rows = []
    for caller in [""] + walk_below(parts, ""):
        for number in range(len(parts.lists[caller]) + 1):
            rows.append((caller, number, worst(with_one_more(tree, caller, number, talk), many)))
    return rows


def best_places(tree, talk, many=0):
    """The PLACEs of the least worth."""
    rows = places(tree, talk, many)
    least = min([row[2] for row in rows])
    return [row for row in rows if row[2] == least]
