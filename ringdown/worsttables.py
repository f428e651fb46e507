"""TABLEs of the WORST, and PAPERs by which anybody can see that none is worse."""

from ringdown.measures import Search, may_be_away, need_many, search_of
from ringdown.spots import spots_of, worst_by_many
from ringdown.tree import need_tree


def table_of(search):
    """The TABLE of a question for the WORST."""
    rows = []
    for spot_name, spot in spots_of(search).items():
        name, sight = spot_name
        rows.append((name, sight, tuple(spot.busy), tuple(spot.most)))
    return tuple(rows)


def away_that_make(search, least):
    """AWAY ones, no more than are asked for, that make the MEASURE least or more, where some do.

    One by one each NAME is made sure, if that leaves somebody else who does. Of those who are left none can be made
    sure any more: so they all are away.
    """
    away = []
    sure = list(search.sure)
    for name in sorted(search.parts.names):
        if may_be_away(search, name):
            without = Search(search.from_tree, search.many, search.which, search.asked, sure + [name])
            if worst_by_many(without)[search.many] >= least:
                sure.append(name)
            else:
                away.append(name)
    return tuple(away)


def worst_table(tree, many, which="last", name="", sure=None):
    """The TABLE of so many away ones."""
    need_tree(tree)
    need_many(many)
    return table_of(search_of(tree, many, which, name, sure))


def worst_paper(tree, many, which="last", name="", sure=None):
    """A PAPER that shows the WORST of at most so many away ones."""
    need_tree(tree)
    need_many(many)
    search = search_of(tree, many, which, name, sure)
    return (away_that_make(search, worst_by_many(search)[many]), table_of(search))
