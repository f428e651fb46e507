"""PAPERs that show that no order comes to less, written and looked through."""

from ringdown.blocks import blocks_of, end_of, goes_ahead, has_end, has_row, list_behind, tail_of, with_lists
from ringdown.errors import BadPaper
from ringdown.orders import comes_to, lists_in_order


def names_of_rows(blocks):
    """Whose LISTs have a row, in the order of the rows."""
    return [name for name in blocks.gone if has_row(blocks, name)]


def last_place(blocks, behind, order):
    """The place of a BLOCK that ends last, of those of a LIST in that order."""
    ends = []
    start = 0
    for name in order:
        end = end_of(blocks, name, behind)
        ends.append(-1 if end is None else start + end)
        start += blocks.lengths[name]
    return ends.index(max(ends))


def group_till_last(blocks, behind, name, order):
    """The names of a LIST up to one that ends last in that order, as they stand in the TREE.

    TAILs fall in that order, so the least of them is that one's: their BOUND is just when it ends.
    """
    ahead = order[:last_place(blocks, behind, order) + 1]
    return tuple([each for each in list_behind(blocks, name) if each in ahead])


def order_paper(tree, away=None, which="last"):
    """A PAPER that shows the SOONEST."""
    blocks = blocks_of(tree, away, which)
    lists, behind = lists_in_order(blocks)
    if which == "sum":
        return [(name, tuple(lists[name])) for name in names_of_rows(blocks)]
    return [(name, group_till_last(blocks, behind, name, lists[name])) for name in names_of_rows(blocks)]


def are_names_among(things, names):
    """Whether things is a tuple of names, each among these and no name twice."""
    if not isinstance(things, tuple) or len(things) > len(names):
        return False
    if not all([isinstance(thing, str) and thing in names for thing in things]):
        return False
    return len(set(things)) == len(things)


def is_bounding(blocks, name, group):
    """Whether a GROUP of names of a LIST has some, as they stand, each with a TAIL."""
    as_they_stand = [each for each in list_behind(blocks, name) if each in group]
    return len(group) > 0 and list(group) == as_they_stand and all([has_end(blocks, each) for each in group])


def is_in_order(blocks, name, group):
    """Whether a GROUP of names of a LIST has all, none of which must stand ahead of the one right ahead of it."""
    if len(group) != len(list_behind(blocks, name)):
        return False
    return not any([goes_ahead(blocks, each, ahead) for ahead, each in zip(group, group[1:])])


def is_row_of(blocks, thing, name):
    """Whether thing is a row for the LIST of a name."""
    if not isinstance(thing, tuple) or len(thing) != 2:
        return False
    row_name, group = thing
    if not isinstance(row_name, str) or row_name != name:
        return False
    if not are_names_among(group, list_behind(blocks, name)):
        return False
    if blocks.which == "sum":
        return is_in_order(blocks, name, group)
    return is_bounding(blocks, name, group)


def first_bad_row(blocks, things):
    """The number of the first of things that isn't as told or is one too many, or of a row that lacks; or None."""
    names = names_of_rows(blocks)
    for number, thing in enumerate(things):
        if number >= len(names) or not is_row_of(blocks, thing, names[number]):
            return number
    return len(things) if len(things) < len(names) else None


def bound_of(blocks, bounds, group):
    """BOUND of a GROUP, those of the rows below being known."""
    lengths = [blocks.lengths[name] for name in group]
    return sum(lengths) + min([tail_of(blocks, name, bounds) for name in group])


def bound_shown(blocks, rows):
    """The BOUND of the BELL's row, 0 without one."""
    bounds = {}
    for name, group in rows[::-1]:
        bounds[name] = bound_of(blocks, bounds, group)
    return bounds.get("", 0)


def check_order(tree, paper, away=None, which="last"):
    """What a PAPER shows, else BadPaper."""
    blocks = blocks_of(tree, away, which)
    if not isinstance(paper, list):
        raise BadPaper()
    number = first_bad_row(blocks, paper)
    if number is not None:
        raise BadPaper(number)
    if which == "sum":
        return comes_to(with_lists(blocks, dict(paper)), blocks.away_ones, which)
    return bound_shown(blocks, paper)
