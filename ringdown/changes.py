"""Changes of a TREE: each tells another TREE, whose PEOPLE stand in WALK order."""

from ringdown.errors import OutOfPlace, TooGreat, Twice
from ringdown.tree import MOST_PEOPLE, is_deep, is_talk, is_wait, names_of, need_name, need_name_or_bell, need_tree
from ringdown.treeparts import TreeParts, put_in, tree_of, walk_below
from ringdown.words import is_among, is_name


def place_number(place, names):
    """The number of a PLACE in a LIST of these names, its end where it is None; else OutOfPlace."""
    if place is None:
        return len(names)
    if not is_among(place, 0, len(names)):
        raise OutOfPlace("no place in that list")
    return place


def need_talk(talk):
    """Nothing of a TALK, else OutOfPlace."""
    if not is_talk(talk):
        raise OutOfPlace("no talk")


def need_new_name(names, name):
    """Nothing of a NAME that none of these is, else OutOfPlace or Twice."""
    if not is_name(name):
        raise OutOfPlace("no name")
    if name in names:
        raise Twice("a name that is there already")


def joined(tree, name, caller, talk, place=None):
    """The TREE with one more, who has that NAME."""
    names = names_of(tree)
    need_new_name(names, name)
    need_name_or_bell(tree, caller)
    need_talk(talk)
    parts = TreeParts(tree)
    number = place_number(place, parts.lists[caller])
    if len(names) == MOST_PEOPLE:
        raise TooGreat("sixteen people stand in the tree already")
    put_in(parts, name, caller, talk, number)
    return tree_of(parts)


def left(tree, name):
    """The TREE without a NAME, those of its LIST standing where it stood."""
    need_name(tree, name)
    parts = TreeParts(tree)
    names = parts.lists[parts.callers[name]]
    number = names.index(name)
    names[number:number + 1] = parts.lists[name]
    return tree_of(parts)


def moved(tree, name, caller, place=None):
    """The TREE with a NAME, and all BELOW it, at another PLACE."""
    need_name(tree, name)
    need_name_or_bell(tree, caller)
    parts = TreeParts(tree)
    if caller == name or caller in walk_below(parts, name):
        raise OutOfPlace("under itself")
    parts.lists[parts.callers[name]].remove(name)
    parts.lists[caller].insert(place_number(place, parts.lists[caller]), name)
    return tree_of(parts)


def retalked(tree, name, talk):
    """The TREE with another TALK of a NAME."""
    need_name(tree, name)
    need_talk(talk)
    parts = TreeParts(tree)
    parts.talks[name] = talk
    return tree_of(parts)


def rewaited(tree, wait):
    """The TREE with another WAIT."""
    need_tree(tree)
    if not is_wait(wait):
        raise OutOfPlace("no wait")
    parts = TreeParts(tree)
    parts.wait = wait
    return tree_of(parts)


def redeeped(tree, deep):
    """The TREE with another DEEP."""
    need_tree(tree)
    if not is_deep(deep):
        raise OutOfPlace("no levels that a sheet may show")
    parts = TreeParts(tree)
    parts.deep = deep
    return tree_of(parts)
