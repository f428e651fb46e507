"""How many of the stories of a case cost the least.

A row may be broken off at several of those in it, and cost the same by each: so it isn't counted by where it is broken
off, but by how much that saves, which a row tells from its first one on.
"""

from ringdown.caseparts import cost_by_itself, states_left


def counted(found, key, cost, many):
    """Takes so many more of that cost, by a key, into what was found by keys: the least cost, and how many cost it."""
    if key not in found or cost < found[key][0]:
        found[key] = (cost, many)
    elif cost == found[key][0]:
        found[key] = (cost, found[key][1] + many)


def saved_behind(parts, state, found, table):
    """By how much is saved behind one more of a ROW, what it costs and how many ways there are."""
    behind = {}
    for saved, row in found.items():
        for each, count in table.items():
            handed = parts.handed[(state, each)]
            # To break off ahead of what saves nothing is no better than to do so behind it.
            saved_now = max(0, saved + handed - cost_by_itself(parts, each))
            counted(behind, saved_now, row[0] + handed + count[0], row[1] * count[1])
    return behind


def cheapest(rows):
    """The least cost of rows (COST, MANY), and how many ways cost that."""
    cost = min([row[0] for row in rows])
    return (cost, sum([row[1] for row in rows if row[0] == cost]))


def count_row(parts, tables, name, state):
    """(the least that one and all below cost by a STATE, how many ways cost that)."""
    found = {0: (0, 1)}
    for each in parts.rows[name]:
        found = saved_behind(parts, state, found, tables[each])
    return cheapest([(row[0] - max(0, saved - parts.broken_off), row[1]) for saved, row in found.items()])


def count_alone(parts, name):
    """How many STATES cost the least of one without a CARRIER, who calls nobody."""
    costs = [cost_by_itself(parts, state) for state in states_left(parts, parts.heard, name)]
    return costs.count(min(costs))


def count_cheapest(parts):
    """How many STORIES are CHEAPEST."""
    tables = {}
    for name in parts.carried[::-1]:
        left = states_left(parts, parts.heard, name)
        tables[name] = {state: count_row(parts, tables, name, state) for state in left}
    many = count_row(parts, tables, "", parts.heard[""])[1]
    for name in parts.uncarried:
        many = many * count_alone(parts, name)
    return many
