"""The RING of a TREE: who calls whom, and when."""

from ringdown.tree import away_or_nobody, need_name
from ringdown.treeparts import TreeParts

# What stands where in a CALL.
START = 0
END = 1
CALLER = 2
CALLEE = 3
ANSWERED = 4


def still_shown(parts, caller, away_one):
    """Whether the caller's sheet shows the LIST of one who is AWAY."""
    if parts.deep == 0:
        return True
    return parts.levels[away_one] + 1 - parts.levels[caller] <= parts.deep


def calls_by(parts, away, caller, start):
    """The CALLs that a caller makes, from the minute on at which it starts."""
    calls = []
    line = list(parts.lists[caller])
    now = start
    while line:
        name = line.pop(0)
        there = name not in away
        end = now + (parts.talks[name] if there else parts.wait)
        calls.append((now, end, caller, name, there))
        if not there and still_shown(parts, caller, name):
            line = parts.lists[name] + line
        now = end
    return calls


def calls_from(parts, away, caller, start):
    """The CALLs of a caller and of all who are TOLD by them."""
    made = calls_by(parts, away, caller, start)
    calls = list(made)
    for call in made:
        if call[ANSWERED]:
            calls.extend(calls_from(parts, away, call[CALLEE], call[END]))
    return calls


def call_order(call):
    """By what the CALLs of a RING rise."""
    return (call[START], call[CALLER])


def ring_calls(tree, away=None):
    """The CALLs of the RING, in their order."""
    told_away = away_or_nobody(tree, away)
    calls = calls_from(TreeParts(tree), told_away, "", 0)
    return sorted(calls, key=call_order)


def told_rows(tree, away=None):
    """(MINUTE, NAME) of all who are TOLD, rising."""
    return sorted([(call[END], call[CALLEE]) for call in ring_calls(tree, away) if call[ANSWERED]])


def lost_names(tree, away=None):
    """Who is there and called by nobody, rising."""
    called = [call[CALLEE] for call in ring_calls(tree, away)]
    told_away = away_or_nobody(tree, away)
    return sorted([name for name in TreeParts(tree).names if name not in called and name not in told_away])


def last_of(tree, away=None):
    """The latest minute at which one is TOLD."""
    return max([row[0] for row in told_rows(tree, away)], default=0)


def quiet_of(tree, away=None):
    """The latest END of a CALL."""
    return max([call[END] for call in ring_calls(tree, away)], default=0)


def call_to(calls, name):
    """The CALL to a name among CALLs of a RING, or None."""
    for call in calls:
        if call[CALLEE] == name:
            return call
    return None


def told_minute(tree, name, away=None):
    """The minute at which a name is TOLD, or None."""
    calls = ring_calls(tree, away)
    need_name(tree, name)
    call = call_to(calls, name)
    return call[END] if call is not None and call[ANSWERED] else None


def carrier_of(tree, name, away=None):
    """The CALLER of the CALL to a name, or None."""
    calls = ring_calls(tree, away)
    need_name(tree, name)
    call = call_to(calls, name)
    return None if call is None else call[CALLER]
