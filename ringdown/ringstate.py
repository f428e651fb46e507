"""How a RINGING stands: who is in whose LINE, who was called by whom, and which CALLs go on."""

from ringdown.rings import ANSWERED, CALLEE, CALLER, END
from ringdown.treeparts import TreeParts

# What stands in a CALL of a RINGING behind what stands in one of a RING.
HAPPENING = 5


class RingState:
    """How a RINGING stands at a minute, behind its ENDs.

    minute: NOW. from_tree: the TREE, in WALK order. parts: the same, taken apart. away_ones: who is AWAY. ever: all
    NAMEs that ever were in it. rung: (MINUTE, HAPPENING), as rung. rows: the LINEs, by NAMEs and the BELL. words: the
    STANDINGs, by (HAPPENING, NAME); by the same bys: BY of those that were called, and handed: True of those to which
    a call has ended. phones: the CALLs that go on. ended: those that ended.
    """

    def __init__(self, tree, away):
        self.minute = 0
        self.from_tree = tree
        self.parts = TreeParts(tree)
        self.away_ones = list(away)
        self.ever = list(self.parts.names)
        self.rung = []
        self.rows = {name: [] for name in [""] + self.parts.names}
        self.words = {}
        self.bys = {}
        self.handed = {}
        self.phones = []
        self.ended = []


def copy_of(state):
    """A RingState like it, on its own."""
    copy = RingState(state.from_tree, state.away_ones)
    copy.minute = state.minute
    copy.ever = list(state.ever)
    copy.rung = list(state.rung)
    copy.rows = {name: list(rows) for name, rows in state.rows.items()}
    copy.words = {key: word for key, word in state.words.items()}
    copy.bys = {key: name for key, name in state.bys.items()}
    copy.handed = {key: True for key in state.handed}
    copy.phones = list(state.phones)
    copy.ended = list(state.ended)
    return copy


def stand_by_tree(state, tree):
    """Lets another TREE stand, in WALK order."""
    state.from_tree = tree
    state.parts = TreeParts(tree)


def is_here(state, name):
    """Whether a NAME, or the BELL, is there."""
    return name not in state.away_ones


def call_on_phone(state, name):
    """The CALL for which a NAME, or the BELL, is on a phone, or None."""
    for call in state.phones:
        if name in (call[CALLER], call[CALLEE]):
            return call
    return None


def is_at_rest(state):
    """Whether no CALL goes on and no LINE has a row."""
    return len(state.phones) == 0 and all([len(rows) == 0 for rows in state.rows.values()])


def is_handed(state, happening, name):
    """Whether a NAME, or the BELL, is HANDED."""
    return name == "" or (happening, name) in state.handed


def holder_of(state, happening, name):
    """The HOLDER of one who is HANDED."""
    each = name
    while each != "" and (state.words[(happening, each)] != "told" or not is_here(state, each)):
        each = state.bys[(happening, each)]
    return each


def put_in_line(state, happening, names, holder, place):
    """Lets NAMEs come in line, from a place of the holder's LINE on."""
    state.rows[holder][place:place] = [(happening, name) for name in names]
    for name in names:
        state.words[(happening, name)] = "in line"


def put_behind(state, happening, names, holder):
    """Lets NAMEs come in line, at the end of the holder's LINE."""
    put_in_line(state, happening, names, holder, len(state.rows[holder]))


def who_wait(state, happening, name):
    """Those of the LIST of a NAME, or of the BELL, who wait."""
    return [each for each in state.parts.lists[name] if state.words[(happening, each)] == "waiting"]


def told_rows_of(state, happening):
    """(MINUTE, NAME) of all who were told of a HAPPENING, as they were."""
    return [(call[END], call[CALLEE]) for call in state.ended if call[HAPPENING] == happening and call[ANSWERED]]
