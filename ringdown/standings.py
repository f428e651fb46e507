"""How the names of a TREE stand at a MINUTE of its RING."""

from ringdown.errors import OutOfPlace
from ringdown.rings import ANSWERED, CALLER, END, START, call_to, ring_calls
from ringdown.tree import caller_of, in_walk, names_of, need_name
from ringdown.words import is_minute


def calls_looked_at(tree, minute, away):
    """The CALLs of the RING, the minute being looked through behind TREE and AWAY."""
    calls = ring_calls(tree, away)
    if not is_minute(minute):
        raise OutOfPlace("no minute from 0 to 5,999")
    return calls


def minute_in_line(tree, calls, name):
    """The minute that puts a name that is called in line."""
    caller = caller_of(tree, name)
    return 0 if caller == "" else call_to(calls, caller)[END]


def word_at(tree, calls, minute, name):
    """The STANDING of a name at a minute."""
    call = call_to(calls, name)
    if call is None:
        return "waiting"
    if minute >= call[END]:
        return "told" if call[ANSWERED] else "missed"
    if minute >= call[START]:
        return "called"
    return "in line" if minute >= minute_in_line(tree, calls, name) else "waiting"


def standing(tree, minute, name, away=None):
    """The STANDING of a name at a MINUTE."""
    calls = calls_looked_at(tree, minute, away)
    need_name(tree, name)
    return word_at(tree, calls, minute, name)


def standings(tree, minute, away=None):
    """(NAME, STANDING) of all at a MINUTE, in WALK order."""
    calls = calls_looked_at(tree, minute, away)
    return [(name, word_at(tree, calls, minute, name)) for name in names_of(in_walk(tree))]


def goes_on(call, minute):
    """Whether a CALL goes on at a minute."""
    return call[START] <= minute < call[END]


def caller_in(call):
    """The CALLER of a CALL."""
    return call[CALLER]


def going_at(tree, minute, away=None):
    """The CALLs that go on at a MINUTE, by CALLERs rising."""
    calls = calls_looked_at(tree, minute, away)
    return sorted([call for call in calls if goes_on(call, minute)], key=caller_in)
