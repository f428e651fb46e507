"""Trees and other things that several tests hand in."""

from itertools import product
from random import Random

# In WALK order: ann cid eve dan bob fay.
PEOPLE = (
    ("ann", "", 3),
    ("bob", "", 5),
    ("cid", "ann", 4),
    ("dan", "ann", 1),
    ("eve", "cid", 2),
    ("fay", "bob", 6),
)
TREE = (2, 0, PEOPLE)
EMPTY = (1, 0, ())
NAMES = tuple(chr(97 + at) * 2 for at in range(16))
HUGE = 10 ** 5000


class Thing:
    """Something that is nothing the program knows."""


class AlikeToAll:
    """Something that says of everything that they are the same."""

    __hash__ = None

    def __eq__(self, other):
        return True

    def __ne__(self, other):
        return False


# Of other kinds than any tree, name, minute, tuple or measure.
OTHER_KINDS = (
    None, True, False, 0, 7, -1, HUGE, -HUGE, "tree", "zz" * 5000, b"ann", b"", 1.5,
    [], ["ann"], [2, 0, []], {}, {"ann": 1}, set(), frozenset(), (), ((),), (1, 2), (1, 2, 3, 4),
    object, Thing(), len,
)


def with_deep(deep, tree=TREE):
    return (tree[0], deep, tree[2])


def chain(many, wait=2, deep=0, talk=3):
    people = tuple((name, NAMES[at - 1] if at else "", talk) for at, name in enumerate(NAMES[:many]))
    return (wait, deep, people)


def flat(many, wait=2, deep=0, talk=3):
    return (wait, deep, tuple((name, "", talk) for name in NAMES[:many]))


def twofold(many, wait=2, deep=0):
    """Lists of two names, the first half of the people having one."""
    people = [(name, NAMES[(at - 2) // 2] if at > 1 else "", at % 5 + 1) for at, name in enumerate(NAMES[:many])]
    return (wait, deep, tuple(people))


def small_trees(many, wait=2):
    """Every way for that many people to stand, by each DEEP, with TALKs that differ."""
    callers = [("",) + NAMES[:at] for at in range(many)]
    for deep in range(5):
        for chosen in product(*callers):
            people = tuple((NAMES[at], caller, (5, 1, 3, 2, 4)[at]) for at, caller in enumerate(chosen))
            yield (wait, deep, people)


def mixed_trees(many, count, seed):
    """Trees of that many people, the same ones each time the tests run."""
    dice = Random(seed)
    for _ in range(count):
        people = []
        for at in range(many):
            caller = dice.choice(("",) + NAMES[:at])
            people.append((NAMES[at], caller, dice.randint(1, 9)))
        yield (dice.randint(1, 9), dice.randint(0, 4), tuple(people))


def subsets(names):
    """All rising tuples of the names."""
    rising = sorted(names)
    for bits in product((False, True), repeat=len(rising)):
        yield tuple(name for name, taken in zip(rising, bits) if taken)
