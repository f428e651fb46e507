"""The least that those below one may cost, by each STATE that one may have.

A number may lack: None stands for it, and is greater than each number. Some may be tied to their CARRIERs: they have
the same STATE as these.
"""

from ringdown.caseparts import cost_by_itself, states_left


def least(numbers):
    """The least of numbers and Nones; None where there is no number."""
    return min([number for number in numbers if number is not None], default=None)


def together(numbers):
    """The sum of numbers; None where one lacks."""
    numbers_there = [number for number in numbers if number is not None]
    return sum(numbers_there) if len(numbers_there) == len(numbers) else None


def handed_least(parts, table, state):
    """The least that one comes to, by its own numbers, to whom that STATE is handed on."""
    return least([together([parts.handed[(state, each)], number]) for each, number in table.items()])


def alone_least(parts, table):
    """The least that one comes to, by its own numbers, to whom nothing is handed on."""
    return least([together([cost_by_itself(parts, each), number]) for each, number in table.items()])


def table_left(tables, name, state, tied):
    """The numbers of one in the ROW of somebody by a STATE, by the STATES that are left to it."""
    return {state: tables[name][state]} if name in tied else tables[name]


def makes(parts, tables, name, state, tied=()):
    """What one by a STATE MAKES, by the numbers of those of its ROW; tables: numbers by names, then by STATES."""
    row = [table_left(tables, each, state, tied) for each in parts.rows[name]]
    handed = [handed_least(parts, table, state) for table in row]
    sums = [together(handed)]
    # Who has nothing to hand on has nothing to break off; it would cost no less.
    alone = [alone_least(parts, table) for table in row]
    for place in range(len(row)):
        sums.append(together(handed[:place] + [parts.broken_off] + alone[place:]))
    return least(sums)


def table_made(parts, tables, name, fixed, tied):
    """What one MAKES by each STATE; None by those that it may not have."""
    left = states_left(parts, fixed, name)
    return {state: makes(parts, tables, name, state, tied) if state in left else None for state in parts.states}


def least_tables(parts, fixed, tied=()):
    """The least numbers of all who are there, where the STATES of some are fixed."""
    tables = {}
    # Each has its CARRIER ahead: from the last one on those of a ROW are known when their caller's turn comes.
    for name in parts.uncarried + parts.carried[::-1]:
        tables[name] = table_made(parts, tables, name, fixed, tied)
    return tables


def sum_of(parts, tables, tied=()):
    """SUM of numbers by names, then by STATES."""
    alone = [alone_least(parts, tables[name]) for name in parts.uncarried]
    return together([makes(parts, tables, "", parts.heard[""], tied)] + alone)


def price_of(parts, fixed, tied=()):
    """What the cheapest of those STORIES costs that have the STATES that are fixed, None where there is none."""
    return sum_of(parts, least_tables(parts, fixed, tied), tied)
