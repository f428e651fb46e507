"""LISTs put in the order by which the calls come to least."""

from ringdown.blocks import are_alike, blocks_of, end_of, goes_ahead, list_behind, tail_of, with_lists
from ringdown.rings import last_of, quiet_of, told_rows


def tail_rank(blocks, behind, name):
    """By what the BLOCKs of a LIST rise: TAILs falling, None behind all."""
    tail = tail_of(blocks, name, behind)
    return (1, 0) if tail is None else (0, -tail)


def by_tails(blocks, behind, name):
    """The LIST of a name by TAILs falling."""
    return sorted(list_behind(blocks, name), key=lambda each: tail_rank(blocks, behind, each))


def by_heads(blocks, name):
    """The LIST of a name, each BLOCK ahead of those that it must stand ahead of."""
    order = []
    for each in list_behind(blocks, name):
        place = len(order)
        while place > 0 and goes_ahead(blocks, each, order[place - 1]):
            place -= 1
        order.insert(place, each)
    return order


def order_of(blocks, behind, name):
    """The LIST of a name in order, the LISTs BELOW it being so already."""
    return by_heads(blocks, name) if blocks.which == "sum" else by_tails(blocks, behind, name)


def time_behind(blocks, behind, order):
    """From the beginning of a LIST's BLOCKs, in that order, till the last of their ENDs."""
    latest = 0
    start = 0
    for name in order:
        end = end_of(blocks, name, behind)
        if end is not None:
            latest = max(latest, start + end)
        start += blocks.lengths[name]
    return latest


def lists_in_order(blocks):
    """By the names whose LISTs are GONE THROUGH: these in order, and how long it takes behind the CALL then."""
    lists = {}
    behind = {}
    for name in blocks.gone[::-1]:
        lists[name] = order_of(blocks, behind, name)
        behind[name] = time_behind(blocks, behind, lists[name])
    return lists, behind


def tails(tree, away=None, which="last"):
    """(NAME, LENGTH, TAIL) of all BLOCKs, for sum with the count of HEADS, in WALK order."""
    blocks = blocks_of(tree, away, which)
    if which == "sum":
        return [(name, blocks.lengths[name], blocks.heads[name]) for name in blocks.names]
    _, behind = lists_in_order(blocks)
    return [(name, blocks.lengths[name], tail_of(blocks, name, behind)) for name in blocks.names]


def tree_in_order(blocks):
    """The TREE put IN ORDER."""
    lists, _ = lists_in_order(blocks)
    return with_lists(blocks, lists)


def in_order(tree, away=None, which="last"):
    """The TREE put IN ORDER by an AIM."""
    return tree_in_order(blocks_of(tree, away, which))


def comes_to(tree, away, which):
    """What the order of LISTs of a TREE comes to, by an AIM."""
    if which == "last":
        return last_of(tree, away)
    if which == "quiet":
        return quiet_of(tree, away)
    return sum([row[0] for row in told_rows(tree, away)])


def soonest(tree, away=None, which="last"):
    """The least that any order of the LISTs comes to."""
    blocks = blocks_of(tree, away, which)
    return comes_to(tree_in_order(blocks), blocks.away_ones, which)


def orders_alike(blocks, name):
    """In how many orders the BLOCKs of a LIST stand in which alike ones stand to one another in any way."""
    names = list_behind(blocks, name)
    many = 1
    for place, each in enumerate(names):
        # One more to the alike ones ahead of it may stand in front of each of them, or behind all.
        many = many * (1 + len([other for other in names[:place] if are_alike(blocks, each, other)]))
    return many


def count_orders(tree, away=None):
    """How many orders of the LISTs that are GONE THROUGH come to the least sum."""
    blocks = blocks_of(tree, away, "sum")
    many = 1
    for name in blocks.gone:
        many = many * orders_alike(blocks, name)
    return many
