"""The LISTs that are GONE THROUGH by a known AWAY, and their BLOCKs; what is handed in is looked through already."""

from ringdown.errors import OutOfPlace
from ringdown.rings import ANSWERED, CALLEE, CALLER, ring_calls, still_shown
from ringdown.tree import away_or_nobody
from ringdown.treeparts import TreeParts, tree_of, walk_below

AIMS = ("last", "quiet", "sum")


class Blocks:
    """LENGTH and HEADS of each BLOCK of a TREE and who is AWAY, and the AIM that is asked for.

    gone: whose LISTs are GONE THROUGH, the BELL first, the others in WALK order. names: whose BLOCKs there are,
    in WALK order. lengths: LENGTHs by NAMEs. heads: how many HEADS, by NAMEs.
    """

    def __init__(self, tree, away, which):
        self.from_tree = tree
        self.parts = TreeParts(tree)
        self.away_ones = away
        self.which = which
        self.gone = names_gone_through(tree, self.parts, away)
        self.names = [name for name in walk_below(self.parts, "") if self.parts.callers[name] in self.gone]
        self.lengths = {}
        self.heads = {}
        # From the last one on: so the BLOCKs BELOW are known when their caller's turn comes.
        for name in self.names[::-1]:
            self.lengths[name] = length_of(self, name)
            self.heads[name] = count_of_heads(self, name)


def need_aim(which):
    """Nothing of an AIM, else OutOfPlace."""
    if not isinstance(which, str) or which not in AIMS:
        raise OutOfPlace("no aim")


def blocks_of(tree, away, which):
    """The BLOCKs of a TREE and who is AWAY; refused is what is no TREE, AWAY or AIM."""
    told_away = away_or_nobody(tree, away)
    need_aim(which)
    return Blocks(tree, told_away, which)


def names_gone_through(tree, parts, away):
    """Whose LISTs are GONE THROUGH, the BELL first, the others in WALK order."""
    found = [""]
    for call in ring_calls(tree, away):
        if call[ANSWERED] or still_shown(parts, call[CALLER], call[CALLEE]):
            found.append(call[CALLEE])
    return [name for name in [""] + walk_below(parts, "") if name in found]


def is_there(blocks, name):
    """Whether a NAME is there."""
    return name not in blocks.away_ones


def own_call(blocks, name):
    """How long the CALL to a NAME takes."""
    return blocks.parts.talks[name] if is_there(blocks, name) else blocks.parts.wait


def list_behind(blocks, name):
    """The LIST that is gone through behind the CALL to a NAME, by whomever; with no names if it isn't."""
    return blocks.parts.lists[name] if name in blocks.gone else []


def length_of(blocks, name):
    """LENGTH of a BLOCK, those BELOW it being known."""
    length = own_call(blocks, name)
    if not is_there(blocks, name):
        length += sum([blocks.lengths[each] for each in list_behind(blocks, name)])
    return length


def count_of_heads(blocks, name):
    """How many HEADS a BLOCK has, those BELOW it being known."""
    own = 1 if is_there(blocks, name) else 0
    return own + sum([blocks.heads[each] for each in list_behind(blocks, name)])


def has_end(blocks, name):
    """Whether a BLOCK's END isn't None."""
    return blocks.which == "quiet" or blocks.heads[name] > 0


def end_of(blocks, name, behind):
    """END of a BLOCK, or None; behind: by NAMEs, how long it takes behind their CALL, 0 where they aren't told of."""
    return own_call(blocks, name) + behind.get(name, 0) if has_end(blocks, name) else None


def tail_of(blocks, name, behind):
    """TAIL of a BLOCK, or None."""
    end = end_of(blocks, name, behind)
    return None if end is None else end - blocks.lengths[name]


def has_row(blocks, name):
    """Whether the LIST of a NAME, or of the BELL, is GONE THROUGH and has a BLOCK whose END isn't None."""
    return any([has_end(blocks, each) for each in list_behind(blocks, name)])


def goes_ahead(blocks, one, other):
    """Whether, for sum, the BLOCK of the one must stand ahead of the other one's."""
    return blocks.lengths[one] * blocks.heads[other] < blocks.lengths[other] * blocks.heads[one]


def are_alike(blocks, one, other):
    """Whether, for sum, neither BLOCK must stand ahead of the other one."""
    return not goes_ahead(blocks, one, other) and not goes_ahead(blocks, other, one)


def with_lists(blocks, orders):
    """The TREE with LISTs in other orders; orders: these LISTs by the names whose they are."""
    parts = TreeParts(blocks.from_tree)
    for name, order in orders.items():
        parts.lists[name] = order
    return tree_of(parts)
