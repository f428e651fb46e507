"""The most that away ones can do in each SPOT, and so in the whole TREE.

It is reckoned from the last of PEOPLE on, so that all who stand BELOW a NAME are known when its turn comes. Who is
away BELOW one NAME of a LIST changes nothing BELOW another one: so it is enough to look at how many away ones each
NAME gets, not at who they are.
"""

from ringdown.measures import may_be_away
from ringdown.treeparts import walk_below


class Spot:
    """BUSY and MOST of a NAME in a SPOT, each a list by 0, 1, .. many away ones."""

    def __init__(self, busy, most):
        self.busy = busy
        self.most = most


def spots_in_order(search):
    """The SPOTs of the TREE, the last of PEOPLE first, SIGHTs rising."""
    deep = search.parts.deep
    sights = [0] if deep == 0 else list(range(1, deep + 1))
    return [(name, sight) for name in search.parts.names[::-1] for sight in sights]


def parted(one, other):
    """The greatest sums of a number of the one and one of the other, by away ones parted between them."""
    return [max([one[many - part] + other[part] for part in range(many + 1)]) for many in range(len(one))]


def behind_held(held, most):
    """The greatest MOST behind a caller who is held so long, -1 where there is none."""
    found = []
    for many in range(len(held)):
        sums = [held[many - part] + most[part] for part in range(many + 1) if most[part] != -1]
        found.append(max(sums, default=-1))
    return found


def greater_each(one, other):
    """By each number of away ones the greater number of two lists."""
    return [max(a, b) for a, b in zip(one, other)]


def all_parted(search, rows):
    """The greatest sums of a number of each row, by away ones parted among the rows."""
    sums = [0] * (search.many + 1)
    for row in rows:
        sums = parted(sums, row)
    return sums


def list_busy(search, spots, names, sight):
    """BUSY that a LIST makes, gone through by a SIGHT."""
    return all_parted(search, [spots[(name, sight)].busy for name in names])


def list_most(search, spots, names, sight):
    """MOST that a LIST makes, gone through by a SIGHT."""
    gone_through = [spots[(name, sight)] for name in names]
    if search.which == "lost":
        return all_parted(search, [spot.most for spot in gone_through])
    held = [0] * (search.many + 1)
    most = [-1] * (search.many + 1)
    for spot in gone_through:
        most = greater_each(most, behind_held(held, spot.most))
        held = parted(held, spot.busy)
    return most


def behind_call(took, counts, most):
    """MOST from the START of a call that took so long; counts: whether the call's own END is looked at."""
    if most != -1:
        return took + most
    return took if counts else -1


def most_there(search, spots, name):
    """MOST of a SPOT whose NAME is there."""
    talk = search.parts.talks[name]
    if search.which == "told" and name == search.asked:
        return [talk] * (search.many + 1)
    made = list_most(search, spots, search.parts.lists[name], search.parts.deep)
    if search.which == "lost":
        return made
    return [behind_call(talk, search.which != "told", most) for most in made]


def list_behind_away(search, spots, name, sight):
    """BUSY and MOST that the LIST of an AWAY one makes, in the hands of its caller by a SIGHT."""
    if sight == 1:
        unread = len(walk_below(search.parts, name)) if search.which == "lost" else -1
        return [0] * (search.many + 1), [unread] * (search.many + 1)
    names = search.parts.lists[name]
    sight_on = max(sight - 1, 0)
    return list_busy(search, spots, names, sight_on), list_most(search, spots, names, sight_on)


def away_spot(search, spots, name, sight):
    """What a SPOT whose NAME is away comes to by 0, 1, .. away ones BELOW it."""
    busy, most = list_behind_away(search, spots, name, sight)
    wait = search.parts.wait
    held = [wait + each for each in busy]
    if search.which == "lost":
        return Spot(held, most)
    return Spot(held, [behind_call(wait, search.which == "quiet", each) for each in most])


def spot_of(search, spots, name, sight):
    """What a SPOT comes to by 0, 1, .. away ones, those BELOW it being known."""
    busy = [search.parts.talks[name]] * (search.many + 1)
    most = most_there(search, spots, name)
    if not may_be_away(search, name):
        return Spot(busy, most)
    away = away_spot(search, spots, name, sight)
    # NAME is one of the away ones itself, so one fewer is left BELOW it.
    return Spot(busy[:1] + greater_each(busy[1:], away.busy), most[:1] + greater_each(most[1:], away.most))


def spots_of(search):
    """What each SPOT of the TREE comes to, by (NAME, SIGHT), in the order of the TABLE."""
    spots = {}
    for name, sight in spots_in_order(search):
        spots[(name, sight)] = spot_of(search, spots, name, sight)
    return spots


def bell_most(search, spots):
    """What the BELL's LIST makes for MOST by 0, 1, .. many away ones, 0 where there is none."""
    most = list_most(search, spots, search.parts.lists[""], search.parts.deep)
    return [max(each, 0) for each in most]


def worst_by_many(search):
    """The WORSTs of the TREE by 0, 1, .. many away ones."""
    return bell_most(search, spots_of(search))
