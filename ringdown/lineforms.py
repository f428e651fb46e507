"""What the deeds of plans and ringings are handed in a row of words, and how they are done by it."""

from ringdown.treetext import BELL_WORD
from ringdown.words import is_name, number_of

# Which words stand behind the name of a deed of a RINGING.
RINGING_DEEDS = {
    "ring": ("name",),
    "join": ("name", "caller", "number", "number"),
    "leave": ("name",),
    "move": ("name", "caller", "number"),
    "set_talk": ("name", "number"),
    "set_wait": ("number",),
    "go_away": ("name",),
    "come_back": ("name",),
}


def word_fits(kind, word):
    """Whether a word has the form of its kind."""
    if kind == "number":
        return number_of(word) is not None
    return is_name(word) or (kind == "caller" and word == BELL_WORD)


def thing_of(kind, word):
    """What a word hands in."""
    if kind == "number":
        return number_of(word)
    return "" if word == BELL_WORD else word


def things_of(kinds, words):
    """What words hand in; of the last ones of these kinds some may lack."""
    return [thing_of(kind, word) for kind, word in zip(kinds, words)]


def do_join(subject, things):
    """Lets one join a plan or a ringing; the place may lack."""
    name, caller, talk = things[:3]
    if len(things) == 3:
        subject.join(name, caller, talk)
    else:
        subject.join(name, caller, talk, things[3])


def do_move(subject, things):
    """Lets one move in a plan or a ringing; the place may lack."""
    name, caller = things[:2]
    if len(things) == 2:
        subject.move(name, caller)
    else:
        subject.move(name, caller, things[2])


def do_deed(subject, word, things):
    """Does a deed of that name to a ringing, or to a plan, which has all of them but ring."""
    if word == "join":
        do_join(subject, things)
    elif word == "move":
        do_move(subject, things)
    elif word == "set_talk":
        subject.set_talk(things[0], things[1])
    elif word == "set_wait":
        subject.set_wait(things[0])
    elif word == "leave":
        subject.leave(things[0])
    elif word == "go_away":
        subject.go_away(things[0])
    elif word == "come_back":
        subject.come_back(things[0])
    else:
        subject.ring(things[0])


def things_handed(kinds, may_lack, words):
    """What words hand in, of which so many of the last ones may lack; None where they don't fit these kinds."""
    if not len(kinds) - may_lack <= len(words) <= len(kinds):
        return None
    if not all([word_fits(kind, word) for kind, word in zip(kinds, words)]):
        return None
    return things_of(kinds, words)
