"""Trees of people, who stands where in them, and who is away."""

from ringdown.errors import BadAway, BadTree, NoName
from ringdown.treeparts import TreeParts, tree_of, walk_below
from ringdown.words import is_among, is_name

LONGEST_CALL = 60
DEEPEST = 4
MOST_PEOPLE = 16
NO_PEOPLE = (1, 0, ())


def is_talk(thing):
    """Whether thing is a TALK."""
    return is_among(thing, 1, LONGEST_CALL)


def is_wait(thing):
    """Whether thing is a WAIT."""
    return is_among(thing, 1, LONGEST_CALL)


def is_deep(thing):
    """Whether thing is a DEEP."""
    return is_among(thing, 0, DEEPEST)


def fits_behind(thing, ahead):
    """Whether thing is a PERSON that can stand behind those whose names are ahead."""
    if not isinstance(thing, tuple) or len(thing) != 3:
        return False
    name, caller, talk = thing
    if not is_name(name) or name in ahead or not is_talk(talk):
        return False
    return isinstance(caller, str) and (caller == "" or caller in ahead)


def first_misfit(people):
    """The number of the first thing that can't stand where it stands among PEOPLE, or None."""
    ahead = []
    for number, thing in enumerate(people):
        if not fits_behind(thing, ahead):
            return number
        ahead.append(thing[0])
    return None


def tree_fault(thing):
    """The part and the number by which thing is no TREE; None of a TREE."""
    if not isinstance(thing, tuple) or len(thing) != 3:
        return (None, None)
    wait, deep, people = thing
    if not is_wait(wait):
        return ("wait", None)
    if not is_deep(deep):
        return ("deep", None)
    if not isinstance(people, tuple) or len(people) > MOST_PEOPLE:
        return ("people", None)
    number = first_misfit(people)
    return None if number is None else ("people", number)


def is_tree(thing):
    """Whether thing is a TREE."""
    return tree_fault(thing) is None


def need_tree(tree):
    """Nothing of a TREE, else BadTree."""
    fault = tree_fault(tree)
    if fault is not None:
        part, number = fault
        raise BadTree(part, number)


def first_not_away(tree, things):
    """The number of the first of things that can't be among those AWAY, or None."""
    names = names_of(tree)
    ahead = ""
    for number, thing in enumerate(things):
        if not is_name(thing) or thing not in names or thing <= ahead:
            return number
        ahead = thing
    return None


def is_away(tree, thing):
    """Whether thing tells who is AWAY; BadTree ahead."""
    need_tree(tree)
    return isinstance(thing, tuple) and first_not_away(tree, thing) is None


def need_away(tree, away):
    """Nothing of who is AWAY, else BadAway; BadTree ahead."""
    need_tree(tree)
    if not isinstance(away, tuple):
        raise BadAway()
    number = first_not_away(tree, away)
    if number is not None:
        raise BadAway(number)


def away_or_nobody(tree, away):
    """Who is AWAY, where None is nobody, too; else refused as by need_away."""
    told = () if away is None else away
    need_away(tree, told)
    return told


def names_of(tree):
    """The NAMEs of a TREE, as they stand."""
    need_tree(tree)
    return tuple([person[0] for person in tree[2]])


def need_name(tree, name):
    """Nothing of a NAME of the TREE, else NoName; BadTree ahead."""
    names = names_of(tree)
    if not is_name(name) or name not in names:
        raise NoName(name)


def is_bell(thing):
    """Whether thing stands for the BELL."""
    return isinstance(thing, str) and thing == ""


def need_name_or_bell(tree, name):
    """Nothing of a NAME of the TREE or of the BELL, else NoName; BadTree ahead."""
    need_tree(tree)
    if not is_bell(name):
        need_name(tree, name)


def list_of(tree, name=""):
    """The LIST of a name."""
    need_name_or_bell(tree, name)
    return tuple(TreeParts(tree).lists[name])


def below(tree, name=""):
    """Who stands BELOW a name, in WALK order."""
    need_name_or_bell(tree, name)
    return tuple(walk_below(TreeParts(tree), name))


def level_of(tree, name=""):
    """The LEVEL of a name."""
    need_name_or_bell(tree, name)
    return TreeParts(tree).levels[name]


def caller_of(tree, name):
    """The CALLER of a NAME."""
    need_name(tree, name)
    return TreeParts(tree).callers[name]


def talk_of(tree, name):
    """The TALK of a NAME."""
    need_name(tree, name)
    return TreeParts(tree).talks[name]


def in_walk(tree):
    """The TREE ALIKE to it whose PEOPLE stand in WALK order."""
    need_tree(tree)
    return tree_of(TreeParts(tree))


def same_tree(one, other):
    """Whether two TREEs are ALIKE."""
    return in_walk(one) == in_walk(other)
