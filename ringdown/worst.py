"""The MEASURES of a RING, and the worst that so many away ones can do."""

from ringdown.measures import need_many, need_measure, search_of
from ringdown.rings import last_of, lost_names, quiet_of, told_minute
from ringdown.spots import worst_by_many
from ringdown.tree import away_or_nobody, names_of, need_tree


def measure_of(tree, away=None, which="last", name=""):
    """A MEASURE of the TREE and who is AWAY, None of one who isn't told."""
    need_tree(tree)
    need_measure(tree, which, name)
    told_away = away_or_nobody(tree, away)
    if which == "last":
        return last_of(tree, told_away)
    if which == "quiet":
        return quiet_of(tree, told_away)
    if which == "lost":
        return len(lost_names(tree, told_away))
    return told_minute(tree, name, told_away)


def worst(tree, many, which="last", name="", sure=None):
    """The WORST of at most so many away ones."""
    need_tree(tree)
    need_many(many)
    return worst_by_many(search_of(tree, many, which, name, sure))[many]


def worsts(tree, which="last", name="", sure=None):
    """The WORSTs by 0, 1, .. as many away ones as there are PEOPLE."""
    many = len(names_of(tree))
    return tuple(worst_by_many(search_of(tree, many, which, name, sure)))
