"""A TREE taken apart by its names, for the files that go along it; what is handed in here is a TREE."""


class TreeParts:
    """What a TREE tells of each NAME, and of the BELL."""

    def __init__(self, tree):
        wait, deep, people = tree
        self.wait = wait
        self.deep = deep
        self.names = []
        self.callers = {}
        self.talks = {}
        self.lists = {"": []}
        self.levels = {"": 0}
        for name, caller, talk in people:
            self.names.append(name)
            self.callers[name] = caller
            self.talks[name] = talk
            self.lists[name] = []
            self.lists[caller].append(name)
            self.levels[name] = self.levels[caller] + 1


def put_in(parts, name, caller, talk, number):
    """Puts one more, with nobody BELOW, at that place of the caller's LIST."""
    parts.lists[caller].insert(number, name)
    parts.lists[name] = []
    parts.talks[name] = talk


def walk_below(parts, name):
    """All who stand BELOW a name, in WALK order."""
    walk = []
    for each in parts.lists[name]:
        walk.append(each)
        walk.extend(walk_below(parts, each))
    return walk


def people_below(parts, name):
    """The PERSONs BELOW a name, in WALK order, as the LISTs stand by now."""
    people = []
    for each in parts.lists[name]:
        people.append((each, name, parts.talks[each]))
        people.extend(people_below(parts, each))
    return people


def tree_of(parts):
    """The TREE of its parts, in WALK order: of WAIT, DEEP, TALKs and LISTs as they are now, nothing else."""
    return (parts.wait, parts.deep, tuple(people_below(parts, "")))
