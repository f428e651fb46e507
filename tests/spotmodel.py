"""SPOTs gone through by who is away, and TABLEs by all ways to part, for tests to hold the program against."""

from itertools import product

from tests.minutes import listed
from tests.samples import subsets


def all_below(people, name):
    found = []
    for each in listed(people, name):
        found += [each] + all_below(people, each)
    return found


def talk_to(people, name):
    return {each: talk for each, _, talk in people}[name]


def go_through(tree, name, sight, away, start, told, ends):
    """Till when the caller is held; told: who is told when; ends: when the calls end."""
    wait, deep, people = tree
    end = start + (wait if name in away else talk_to(people, name))
    ends.append(end)
    now = end
    if name not in away:
        told[name] = end
        for each in listed(people, name):
            now = go_through(tree, each, deep, away, now, told, ends)
        return end
    if sight != 1:
        for each in listed(people, name):
            now = go_through(tree, each, max(sight - 1, 0), away, now, told, ends)
    return now


def spot_by_going_through(tree, name, sight, away, which, asked):
    """BUSY and MOST of a SPOT by who is away there."""
    told, ends = {}, []
    busy = go_through(tree, name, sight, away, 0, told, ends)
    if which == "last":
        return busy, max(told.values(), default=-1)
    if which == "quiet":
        return busy, max(ends)
    if which == "lost":
        here = [name] + all_below(tree[2], name)
        return busy, len([each for each in here if each not in away and each not in told])
    return busy, told.get(asked, -1)


def sights(deep):
    return range(1, deep + 1) if deep else (0,)


def table_by_going_through(tree, many, which, asked="", sure=()):
    rows = []
    for name, _, _ in reversed(tree[2]):
        here = [each for each in [name] + all_below(tree[2], name) if each not in sure and each != asked]
        for sight in sights(tree[1]):
            busy, most = [0] * (many + 1), [-1] * (many + 1)
            for away in subsets(here):
                held, at_most = spot_by_going_through(tree, name, sight, away, which, asked)
                for count in range(len(away), many + 1):
                    busy[count] = max(busy[count], held)
                    most[count] = max(most[count], at_most)
            rows.append((name, sight, tuple(busy), tuple(most)))
    return tuple(rows)


def ways_to_part(many, names):
    return [parts for parts in product(range(many + 1), repeat=len(names)) if sum(parts) <= many]


def busy_made(rows, names, sight, many):
    return max(sum(rows[name, sight][0][part] for name, part in zip(names, parts))
               for parts in ways_to_part(many, names))


def most_made(rows, names, sight, many, which):
    found = []
    for parts in ways_to_part(many, names):
        if which == "lost":
            found.append(sum(rows[name, sight][1][part] for name, part in zip(names, parts)))
            continue
        held = 0
        for name, part in zip(names, parts):
            busy, most = rows[name, sight]
            if most[part] != -1:
                found.append(held + most[part])
            held += busy[part]
    return max(found, default=-1)


def least_there(tree, rows, name, many, which, asked):
    talk = talk_to(tree[2], name)
    if which == "told" and name == asked:
        return talk, talk
    made = most_made(rows, listed(tree[2], name), tree[1], many, which)
    if which == "lost":
        return talk, made
    if made == -1:
        return talk, -1 if which == "told" else talk
    return talk, talk + made


def least_away(tree, rows, name, sight, many, which):
    wait = tree[0]
    if sight == 1:
        most = {"last": -1, "told": -1, "quiet": wait, "lost": len(all_below(tree[2], name))}[which]
        return wait, most
    names, on = listed(tree[2], name), max(sight - 1, 0)
    made = most_made(rows, names, on, many, which)
    if which != "lost":
        made = wait + made if made != -1 else wait if which == "quiet" else -1
    return wait + busy_made(rows, names, on, many), made


def least_row(tree, rows, name, sight, many, which, asked, sure):
    """The least numbers by which the row of a SPOT FOLLOWS from rows {(NAME, SIGHT): (BUSY, MOST)}."""
    busy, most = [], []
    for count in range(many + 1):
        found = [least_there(tree, rows, name, count, which, asked)]
        if count and name != asked and name not in sure:
            found.append(least_away(tree, rows, name, sight, count - 1, which))
        busy.append(max(row[0] for row in found))
        most.append(max(row[1] for row in found))
    return tuple(busy), tuple(most)


def place_of_fault(tree, table, many, which, asked="", sure=()):
    """(the number of the first row that doesn't FOLLOW or None, what the TABLE ALLOWS), of rows in their order."""
    rows = {}
    for place, (name, sight, busy, most) in enumerate(table, start=1):
        least = least_row(tree, rows, name, sight, many, which, asked, sure)
        if any(one < other for one, other in zip(busy + most, least[0] + least[1])):
            return place, None
        rows[name, sight] = (busy, most)
    return None, max(most_made(rows, listed(tree[2], ""), tree[1], many, which), 0)
