"""How many can be told within so many rounds, and trees that tell all of them the soonest."""

from ringdown.errors import OutOfPlace
from ringdown.tree import MOST_PEOPLE, is_deep, is_talk, is_wait
from ringdown.words import is_among, is_name

MOST_ROUNDS = 60
MOST_HANDS = 1000
LONGEST_LIST = 16


def need_number(thing, least, most):
    """Nothing of a whole number from least to most, else OutOfPlace."""
    if not is_among(thing, least, most):
        raise OutOfPlace("no whole number that may stand there")


def are_unlike_names(thing):
    """Whether thing is a tuple of none to sixteen NAMEs, none twice."""
    if not isinstance(thing, tuple) or len(thing) > MOST_PEOPLE:
        return False
    return all([is_name(name) for name in thing]) and len(set(thing)) == len(thing)


def reached_next(reached_so_far, many):
    """What is REACHED after one ROUND more than those of which it is told."""
    return 1 + sum(reached_so_far[-many:])


def reached(rounds, many):
    """How many can be REACHED after so many ROUNDS, by LISTs of at most many names."""
    need_number(rounds, 0, MOST_ROUNDS)
    need_number(many, 1, LONGEST_LIST)
    counts = [1]
    while len(counts) <= rounds:
        counts.append(reached_next(counts, many))
    return counts[rounds]


def fewest_rounds(hands, many):
    """The fewest ROUNDS after which so many names and the BELL can be REACHED."""
    need_number(hands, 0, MOST_HANDS)
    need_number(many, 1, LONGEST_LIST)
    counts = [1]
    while counts[-1] <= hands:
        counts.append(reached_next(counts, many))
    return len(counts) - 1


def soonest_people(names, many, talk):
    """PEOPLE that tell these names the soonest: in each ROUND everybody told calls one more, while there is one."""
    people = []
    callers = [""]
    listed = {"": 0}
    while len(people) < len(names):
        for caller in list(callers):
            if listed[caller] < many and len(people) < len(names):
                name = names[len(people)]
                people.append((name, caller, talk))
                callers.append(name)
                listed[name] = 0
                listed[caller] += 1
    return tuple(people)


def soonest_tree(names, many, talk, wait=1, deep=0):
    """A soonest TREE of these names, by LISTs of at most many names."""
    if not are_unlike_names(names):
        raise OutOfPlace("no tuple of none to sixteen unlike names")
    need_number(many, 1, LONGEST_LIST)
    if not is_talk(talk) or not is_wait(wait) or not is_deep(deep):
        raise OutOfPlace("no minutes or levels that a tree may have")
    return (wait, deep, soonest_people(names, many, talk))
