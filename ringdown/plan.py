"""A PLAN: a TREE and who is AWAY, that are changed, kept and put back."""

from ringdown.changes import joined, left, moved, redeeped, retalked, rewaited
from ringdown.errors import NoMark, OutOfPlace, TooGreat
from ringdown.orders import in_order, soonest
from ringdown.places import best_places
from ringdown.plantext import plan_text
from ringdown.rings import last_of, lost_names, quiet_of, ring_calls, told_minute, told_rows
from ringdown.shapes import shapes_of
from ringdown.tree import NO_PEOPLE, away_or_nobody, in_walk, need_name
from ringdown.words import is_name
from ringdown.worst import worst

MOST_KEPT = 6


def minutes_told(tree, away):
    """The minutes at which people are TOLD, by their NAMEs."""
    return {name: minute for minute, name in told_rows(tree, away)}


def rows_changed(ahead, behind):
    """(NAME, AHEAD, BEHIND) of each NAME by which minutes differ, rising; None where there is none."""
    names = sorted(set(list(ahead) + list(behind)))
    rows = [(name, ahead.get(name), behind.get(name)) for name in names]
    return [row for row in rows if row[1] != row[2]]


def without(away, name):
    """Who is AWAY but for one."""
    return tuple([each for each in away if each != name])


class Plan:
    """A TREE and who is AWAY, what is kept, and what the last deed changed."""

    def __init__(self, tree=None, away=None):
        told_tree = NO_PEOPLE if tree is None else tree
        self._away = away_or_nobody(told_tree, away)
        self._tree = in_walk(told_tree)
        self._kept = {}
        self._changed = []
        self._wanted = {}

    def _stand(self, tree, away):
        """Lets a TREE and AWAY stand that a deed made."""
        ahead = minutes_told(self._tree, self._away)
        self._tree = tree
        self._away = away
        self._changed = rows_changed(ahead, minutes_told(tree, away))

    def _need_kept(self, word):
        """Nothing of a WORD under which something is kept, else NoMark."""
        if not is_name(word) or word not in self._kept:
            raise NoMark(word)

    def join(self, name, caller, talk, place=None):
        """Lets one more join."""
        self._stand(joined(self._tree, name, caller, talk, place), self._away)

    def leave(self, name):
        """Lets one leave."""
        self._stand(left(self._tree, name), without(self._away, name))

    def move(self, name, caller, place=None):
        """Lets one move, with all BELOW."""
        self._stand(moved(self._tree, name, caller, place), self._away)

    def set_talk(self, name, talk):
        """Sets the TALK of a NAME."""
        self._stand(retalked(self._tree, name, talk), self._away)

    def set_wait(self, wait):
        """Sets WAIT."""
        self._stand(rewaited(self._tree, wait), self._away)

    def set_deep(self, deep):
        """Sets DEEP."""
        self._stand(redeeped(self._tree, deep), self._away)

    def go_away(self, name):
        """Lets one be AWAY."""
        need_name(self._tree, name)
        if name in self._away:
            raise OutOfPlace("one who is away")
        self._stand(self._tree, tuple(sorted(self._away + (name,))))

    def come_back(self, name):
        """Lets one be there."""
        need_name(self._tree, name)
        if name not in self._away:
            raise OutOfPlace("one who is there")
        self._stand(self._tree, without(self._away, name))

    def put_in_order(self, which="last"):
        """Puts the LISTs in order by an AIM."""
        self._stand(in_order(self._tree, self._away, which), self._away)

    def put_back(self, word):
        """Puts back what is kept under a WORD."""
        self._need_kept(word)
        tree, away = self._kept[word]
        self._stand(tree, away)

    def keep(self, word):
        """Keeps TREE and AWAY under a WORD."""
        if not is_name(word):
            raise OutOfPlace("no name")
        if word not in self._kept and len(self._kept) == MOST_KEPT:
            raise TooGreat("six words are kept already")
        self._kept[word] = (self._tree, self._away)

    def drop(self, word):
        """Keeps no more what is kept under a WORD."""
        self._need_kept(word)
        del self._kept[word]

    def kept(self):
        """The WORDs under which something is kept, rising."""
        return sorted(self._kept)

    def tree(self):
        """The TREE, in WALK order."""
        return self._tree

    def away(self):
        """Who is AWAY."""
        return self._away

    def calls(self):
        """The CALLs of the RING."""
        return ring_calls(self._tree, self._away)

    def told(self, name):
        """The minute at which a name is TOLD, or None."""
        return told_minute(self._tree, name, self._away)

    def last(self):
        """The latest minute at which one is TOLD."""
        return last_of(self._tree, self._away)

    def quiet(self):
        """The latest END of a CALL."""
        return quiet_of(self._tree, self._away)

    def lost(self):
        """Who is there and called by nobody, rising."""
        return lost_names(self._tree, self._away)

    def worst(self, many, which="last", name="", sure=None):
        """The WORST of at most so many away ones."""
        told = worst(self._tree, many, which, name, sure)
        wait, deep, _ = self._tree
        for shape in shapes_of(self._tree):
            self._wanted[(wait, deep, shape)] = True
        return told

    def soonest(self, which="last"):
        """The least that any order of the LISTs comes to."""
        return soonest(self._tree, self._away, which)

    def best_places(self, talk, many=0):
        """The PLACEs of the least worth for one more of that TALK."""
        return best_places(self._tree, talk, many)

    def changed(self):
        """(NAME, AHEAD, BEHIND) of each NAME whose minute the last deed changed, rising."""
        return list(self._changed)

    def looked(self):
        """How many unlike SHAPEs, by WAIT and DEEP, were WANTED so far."""
        return len(self._wanted)

    def copied(self):
        """A PLAN like it, on its own."""
        other = Plan(self._tree, self._away)
        other._kept = {word: kept for word, kept in self._kept.items()}
        other._changed = list(self._changed)
        other._wanted = {key: True for key in self._wanted}
        return other

    def __eq__(self, other):
        """Whether the other one is a PLAN of the same TREE and AWAY."""
        return isinstance(other, Plan) and self._tree == other._tree and self._away == other._away

    def __len__(self):
        """How many PEOPLE there are."""
        return len(self._tree[2])

    def __str__(self):
        """Its TEXT."""
        return str(plan_text(self._tree, self._away))

    def __repr__(self):
        """How many PEOPLE there are, and how many are AWAY."""
        return f"Plan of {len(self._tree[2])}, {len(self._away)} away"
