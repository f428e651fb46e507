"""How few away ones make a MEASURE so great, and whom to make sure of."""

from ringdown.measures import Search, need_least, need_many, search_of
from ringdown.spots import worst_by_many
from ringdown.tree import names_of, need_tree
from ringdown.worsttables import away_that_make, table_of


def search_of_all(tree, least, which, name, sure):
    """The question for the WORSTs by any number of away ones."""
    need_tree(tree)
    need_least(least)
    return search_of(tree, len(names_of(tree)), which, name, sure)


def fewest_of(search, least):
    """How few of those asked for make the MEASURE least or more, or None."""
    for many, most in enumerate(worst_by_many(search)):
        if most >= least:
            return many
    return None


def by_at_most(search, many):
    """The same question by at most so many away ones."""
    return Search(search.from_tree, many, search.which, search.asked, search.sure)


def fewest(tree, least, which="last", name="", sure=None):
    """The FEWEST of least, or None."""
    return fewest_of(search_of_all(tree, least, which, name, sure), least)


def fewest_paper(tree, least, which="last", name="", sure=None):
    """A PAPER that shows the FEWEST of least, or that none do."""
    search = search_of_all(tree, least, which, name, sure)
    many = fewest_of(search, least)
    if many is None:
        return (None, table_of(search))
    if many == 0:
        return ((), ())
    return (away_that_make(by_at_most(search, many), least), table_of(by_at_most(search, many - 1)))


def second_of(row):
    """The WORST in a row (NAME, WORST)."""
    return row[1]


def best_sure(tree, many, which="last", name=""):
    """(NAME, WORST with NAME never away) for each NAME, the least WORST first."""
    need_tree(tree)
    need_many(many)
    search = search_of(tree, many, which, name, None)
    rows = []
    for each in search.parts.names:
        rows.append((each, worst_by_many(Search(tree, many, which, name, (each,)))[many]))
    return sorted(rows, key=second_of)
