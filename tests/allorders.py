"""All orders of LISTs gone through, and BLOCKs read off a ring, for tests to hold the program against."""

from itertools import permutations, product

from tests.minutes import calls_by_minutes, listed


def gone_through(tree, away):
    """Whose LISTs are GONE THROUGH, of those that have a LIST: somebody calls those in it."""
    called = {call[3] for call in calls_by_minutes(tree, away)}
    names = [""] + [row[0] for row in tree[2]]
    return [name for name in names if set(listed(tree[2], name)) & called]


def with_lists(tree, lists):
    people = {row[0]: row for row in tree[2]}

    def walk(name):
        rows = []
        for each in lists.get(name, listed(tree[2], name)):
            rows += [people[each]] + walk(each)
        return rows

    return (tree[0], tree[1], tuple(walk("")))


def all_orders(tree, away):
    gone = gone_through(tree, away)
    for chosen in product(*[permutations(listed(tree[2], name)) for name in gone]):
        yield with_lists(tree, dict(zip(gone, chosen)))


def comes_to(tree, away, which):
    calls = calls_by_minutes(tree, away)
    told = [call[1] for call in calls if call[4]]
    if which == "sum":
        return sum(told)
    if which == "last":
        return max(told, default=0)
    return max((call[1] for call in calls), default=0)


def calls_in_block(tree, away, name, calls):
    """The CALL to a name, and those behind it in its caller's minutes that are made for its LIST."""
    found = [call for call in calls if call[3] == name]
    if name in away:
        for each in listed(tree[2], name):
            found += calls_in_block(tree, away, each, calls)
    return found


def heads_of(tree, away, name, calls):
    found = []
    for call in calls_in_block(tree, away, name, calls):
        if call[4]:
            found.append(call[3])
            for each in listed(tree[2], call[3]):
                found += heads_of(tree, away, each, calls)
    return found


def block_of(tree, away, name, which):
    """(LENGTH, TAIL, count of HEADS) of a BLOCK, of the LISTs as they stand; None of no BLOCK."""
    calls = calls_by_minutes(tree, away)
    if name not in [call[3] for call in calls]:
        return None
    own = calls_in_block(tree, away, name, calls)
    heads = heads_of(tree, away, name, calls)
    length = sum(call[1] - call[0] for call in own)
    if which == "quiet":
        ends = [call[1] for call in calls if call in own or call[2] in heads]
    else:
        ends = [call[1] for call in calls if call[3] in heads]
    start = min(call[0] for call in own)
    tail = max(ends) - start - length if ends else None
    return length, tail, len(heads)
