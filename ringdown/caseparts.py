"""A CASE taken apart, and what its rows cost; what is handed in here is a CASE."""

from ringdown.messages import BROKEN_OFF, DROPPED, OVERHEARD, change_cost
from ringdown.rings import ANSWERED, CALLEE, CALLER, ring_calls
from ringdown.tree import names_of


class CaseParts:
    """What a CASE tells of each who is there, and of the bell.

    there: who is there, rising. carried: those of them who have a CARRIER, each behind it. uncarried: those who have
    none. rows: ROWs, by whose they are. states: the STATES, rising. heard: what is told of those in HEARD, and of the
    bell. handed: what a STATE costs HANDED ON to another one, by the two.
    """

    def __init__(self, case):
        tree, away, prices, first, heard = case
        self.overheard = prices[OVERHEARD]
        self.broken_off = prices[BROKEN_OFF]
        self.there = sorted([name for name in names_of(tree) if name not in away])
        self.rows = {name: [] for name in [""] + self.there}
        self.carried = []
        self.carriers = {}
        for call in ring_calls(tree, away):
            if call[ANSWERED]:
                self.rows[call[CALLER]].append(call[CALLEE])
                self.carried.append(call[CALLEE])
                self.carriers[call[CALLEE]] = call[CALLER]
        self.uncarried = [name for name in self.there if name not in self.carriers]
        self.heard = {name: state for name, state in heard}
        self.heard[""] = first
        self.states = sorted(set([(), first] + [row[1] for row in heard]))
        self.handed = handed_between(prices, self.states)


def handed_cost(prices, one, other):
    """What a STATE costs HANDED ON to another one."""
    if one == other:
        return 0
    if not other:
        return prices[DROPPED]
    return change_cost(prices, one, other) if one else prices[OVERHEARD]


def handed_between(prices, states):
    """What each STATE costs HANDED ON to each, by the two."""
    handed = {}
    for one in states:
        for other in states:
            handed[(one, other)] = handed_cost(prices, one, other)
    return handed


def cost_by_itself(parts, state):
    """What a STATE costs one to whom nothing was handed on."""
    return parts.overheard if state else 0


def row_cost(parts, state, row_states):
    """What a ROW costs, by the STATE of the one whose ROW it is and those of all in it."""
    costs = [sum([parts.handed[(state, each)] for each in row_states])]
    if state:
        for place in range(len(row_states)):
            ahead = sum([parts.handed[(state, each)] for each in row_states[:place]])
            behind = sum([cost_by_itself(parts, each) for each in row_states[place:]])
            costs.append(ahead + parts.broken_off + behind)
    return min(costs)


def story_cost_of(parts, told_states):
    """What a STORY costs; told_states: the STATEs by names, the bell's, too."""
    total = sum([cost_by_itself(parts, told_states[name]) for name in parts.uncarried])
    for name, row in parts.rows.items():
        total = total + row_cost(parts, told_states[name], [told_states[each] for each in row])
    return total


def states_left(parts, fixed, name):
    """The STATES that one who is there, or the bell, may have where some are fixed."""
    return [fixed[name]] if name in fixed else parts.states


def make_dearer(parts, many):
    """Makes all that a STORY may cost so many times as dear."""
    parts.overheard = parts.overheard * many
    parts.broken_off = parts.broken_off * many
    parts.handed = {two: cost * many for two, cost in parts.handed.items()}
