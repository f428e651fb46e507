"""The WAYs by which people are TOLD, and how much longer a call may take."""

from ringdown.rings import ANSWERED, CALLER, END, START, call_to, last_of, ring_calls
from ringdown.tree import need_name


def call_ahead(calls, call):
    """The CALL that must end for this one to begin, or None at minute 0."""
    for each in calls:
        if each[CALLER] == call[CALLER] and each[END] == call[START]:
            return each
    # Nobody calls the BELL, so there is none ahead of its first CALL.
    return call_to(calls, call[CALLER])


def way_to(calls, call):
    """The CALLs that make a CALL begin when it does, and it behind them."""
    way = []
    each = call
    while each is not None:
        way.insert(0, each)
        each = call_ahead(calls, each)
    return way


def answered_call(tree, name, calls):
    """The CALL by which a name is TOLD, or None."""
    need_name(tree, name)
    call = call_to(calls, name)
    return call if call is not None and call[ANSWERED] else None


def way_of(tree, name, away=None):
    """The WAY of one who is TOLD, else None."""
    calls = ring_calls(tree, away)
    call = answered_call(tree, name, calls)
    return None if call is None else way_to(calls, call)


def slack_of(tree, name, away=None):
    """The SLACK of one who is TOLD, else None."""
    calls = ring_calls(tree, away)
    call = answered_call(tree, name, calls)
    if call is None:
        return None
    told_later = [each[END] for each in calls if each[ANSWERED] and call in way_to(calls, each)]
    return last_of(tree, away) - max(told_later)
