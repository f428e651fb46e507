"""TABLES of a case held against all choices of states, for tests; it shares nothing with the package.

A number that lacks is told by INFINITE here, so that sums and leasts go by themselves.
"""

from itertools import product

from tests.allstories import Costs, carriers_of, cost_of_row, row_by_calls, states_by_hand, there_of

INFINITE = float("inf")


def is_number_or_none(thing):
    return thing is None or type(thing) is int


def are_made_like_tables(case, thing):
    many = len(states_by_hand(case))
    if type(thing) is not tuple or len(thing) != len(there_of(case)):
        return False
    return all(type(row) is tuple and len(row) == many and all(map(is_number_or_none, row)) for row in thing)


def numbers_by(case, rows):
    states = states_by_hand(case)
    return {(name, state): INFINITE if number is None else number
            for name, row in zip(there_of(case), rows) for state, number in zip(states, row)}


def made(case, numbers, name, state, spared=None):
    row = row_by_calls(case, name)
    if name == spared:
        return sum(numbers[(each, state)] for each in row)
    found = []
    for chosen in product(states_by_hand(case), repeat=len(row)):
        found.append(cost_of_row(case[2], state, chosen) + sum(numbers[two] for two in zip(row, chosen)))
    return min(found)


def tables_hold(case, numbers, spared=None):
    heard = dict(case[4])
    return all(number <= made(case, numbers, name, state, spared)
               for (name, state), number in numbers.items() if heard.get(name, state) == state)


def tables_sum(case, numbers, spared=None):
    total = made(case, numbers, "", case[3], spared)
    carried = carriers_of(case)
    for name in there_of(case):
        if name not in carried:
            total += min(numbers[(name, state)] + (case[2][1] if state else 0) for state in states_by_hand(case))
    return total


def is_story(case, thing):
    if type(thing) is not tuple or len(thing) != len(there_of(case)):
        return False
    heard, states = dict(case[4]), states_by_hand(case)
    for name, row in zip(there_of(case), thing):
        if type(row) is not tuple or len(row) != 2 or row[0] != name or type(row[1]) is not tuple:
            return False
        if row[1] not in states or heard.get(name, row[1]) != row[1]:
            return False
    return True


def is_paper(case, paper, spared=None):
    """Whether a pair is a paper of a case, or one that the spared one must be to blame."""
    if type(paper) is not tuple or len(paper) != 2:
        return False
    story, rows = paper
    if not is_story(case, story) or not are_made_like_tables(case, rows):
        return False
    numbers = numbers_by(case, rows)
    if not tables_hold(case, numbers, spared):
        return False
    cost, total = Costs(case).of(story), tables_sum(case, numbers, spared)
    return total == cost if spared is None else total > cost


def with_thing(rows, number, thing):
    return rows[:number] + (thing,) + rows[number + 1:]


def with_number(rows, number, place, thing):
    return with_thing(rows, number, with_thing(rows[number], place, thing))
