"""CALLs that are handed in, looked through against those of the RING."""

from ringdown.errors import BadCall
from ringdown.rings import ANSWERED, CALLEE, CALLER, END, START, last_of, ring_calls
from ringdown.words import is_whole


def has_kinds(thing):
    """Whether thing is made like a CALL; Python by itself takes a truth for a number."""
    if not isinstance(thing, tuple) or len(thing) != 5:
        return False
    if not is_whole(thing[START]) or not is_whole(thing[END]):
        return False
    if not isinstance(thing[CALLER], str) or not isinstance(thing[CALLEE], str):
        return False
    return isinstance(thing[ANSWERED], bool)


def same_call(thing, call):
    """Whether thing is that CALL."""
    return has_kinds(thing) and thing == call


def first_other_call(things, calls):
    """The number of the first of things that isn't the RING's, or of the first one that lacks; or None."""
    for number, thing in enumerate(things):
        if number >= len(calls) or not same_call(thing, calls[number]):
            return number
    return len(things) if len(things) < len(calls) else None


def check_calls(tree, calls, away=None):
    """LAST of the CALLs that are the RING's, else BadCall."""
    right = ring_calls(tree, away)
    if not isinstance(calls, (list, tuple)):
        raise BadCall()
    number = first_other_call(calls, right)
    if number is not None:
        raise BadCall(number)
    return last_of(tree, away)
