"""PAPERs of the WORST and of the FEWEST that are handed in, looked through row by row."""

from ringdown.errors import BadPaper
from ringdown.measures import MOST_NUMBER, Search, may_be_away, need_least, need_many, search_of
from ringdown.spots import Spot, bell_most, spot_of, spots_in_order
from ringdown.tree import is_away, names_of, need_tree
from ringdown.words import is_among, is_whole
from ringdown.worst import measure_of


def need_pair(paper):
    """Nothing of a tuple of two, the second a tuple; else BadPaper."""
    if not isinstance(paper, tuple) or len(paper) != 2 or not isinstance(paper[1], tuple):
        raise BadPaper()


def measure_by(search, away):
    """The MEASURE by away ones that may be away, no more than are asked for; else, or where it is None, BadPaper."""
    if not is_away(search.from_tree, away) or len(away) > search.many:
        raise BadPaper(0)
    if not all([may_be_away(search, name) for name in away]):
        raise BadPaper(0)
    measure = measure_of(search.from_tree, away, search.which, search.asked)
    if measure is None:
        raise BadPaper(0)
    return measure


def are_numbers(search, thing):
    """Whether thing can be BUSY or MOST of a row: as many numbers as are asked for, none too great."""
    if not isinstance(thing, tuple) or len(thing) != search.many + 1:
        return False
    return all([is_among(number, -1, MOST_NUMBER) for number in thing])


def is_row_of(search, thing, spot_name):
    """Whether thing is made like the row of that SPOT."""
    if not isinstance(thing, tuple) or len(thing) != 4:
        return False
    name, sight, busy, most = thing
    if not isinstance(name, str) or not is_whole(sight) or (name, sight) != spot_name:
        return False
    return are_numbers(search, busy) and are_numbers(search, most)


def none_less(numbers, others):
    """Whether each number is no less than the other one in its place."""
    return all([number >= other for number, other in zip(numbers, others)])


def follows(search, spots, row):
    """Whether a row FOLLOWS from the rows ahead."""
    name, sight, busy, most = row
    needed = spot_of(search, spots, name, sight)
    return none_less(busy, needed.busy) and none_less(most, needed.most)


def at_most(numbers):
    """By each number of away ones the greatest number by so many or fewer, which a row handed in may lack."""
    return [max(numbers[:many + 1]) for many in range(len(numbers))]


def allowed_by(search, table):
    """What a TABLE ALLOWS; BadPaper of the first row that can't stand, FOLLOW or is one too many, or that lacks."""
    spot_names = spots_in_order(search)
    spots = {}
    for place, row in enumerate(table, start=1):
        if place > len(spot_names) or not is_row_of(search, row, spot_names[place - 1]):
            raise BadPaper(place)
        if not follows(search, spots, row):
            raise BadPaper(place)
        spots[spot_names[place - 1]] = Spot(at_most(row[2]), at_most(row[3]))
    if len(table) < len(spot_names):
        raise BadPaper(len(table) + 1)
    return bell_most(search, spots)[search.many]


def check_worst(tree, many, paper, which="last", name="", sure=None):
    """The WORST that a PAPER shows, else BadPaper."""
    need_tree(tree)
    need_many(many)
    search = search_of(tree, many, which, name, sure)
    need_pair(paper)
    away, table = paper
    measure = measure_by(search, away)
    if allowed_by(search, table) != measure:
        raise BadPaper(len(table) + 1)
    return measure


def need_less_allowed(search, table, least):
    """Nothing of a TABLE that ALLOWS less than least, else BadPaper."""
    if allowed_by(search, table) >= least:
        raise BadPaper(len(table) + 1)


def check_fewest(tree, least, paper, which="last", name="", sure=None):
    """The FEWEST that a PAPER shows, or None of one that shows that none do; else BadPaper."""
    need_tree(tree)
    need_least(least)
    search = search_of(tree, len(names_of(tree)), which, name, sure)
    need_pair(paper)
    away, table = paper
    if away is None:
        need_less_allowed(search, table, least)
        return None
    if measure_by(search, away) < least:
        raise BadPaper(0)
    if not away:
        # Nobody away is none too many: there is nothing that a row could show.
        if table:
            raise BadPaper(1)
        return 0
    need_less_allowed(Search(tree, len(away) - 1, which, name, search.sure), table, least)
    return len(away)
