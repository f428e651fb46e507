"""PAPERs that show that no steps make one message into another one for less."""

from ringdown.errors import BadPaper
from ringdown.messages import LEFT_OUT, PUT_IN, cost_rows, made_by, need_question, otherwise_price, steps_of
from ringdown.words import is_whole


def change_paper(prices, one, other):
    """A PAPER of the CHANGE of one MESSAGE into another one."""
    steps = steps_of(prices, one, other)
    return (steps, tuple([tuple(row) for row in cost_rows(prices, one, other)]))


def cost_of_making(prices, one, other, steps):
    """What STEPS cost that make the one MESSAGE into the other; None of what are no such STEPS."""
    try:
        words, cost = made_by(prices, one, steps)
    except BadPaper:
        return None
    return cost if words == other else None


def are_numbers_by(thing, many):
    """Whether thing is a tuple of so many whole numbers."""
    return isinstance(thing, tuple) and len(thing) == many and all([is_whole(number) for number in thing])


def are_potentials_by(one, other, thing):
    """Whether thing has as many rows, of as many whole numbers, as POTENTIALS of two MESSAGEs."""
    if not isinstance(thing, tuple) or len(thing) != len(one) + 1:
        return False
    return all([are_numbers_by(row, len(other) + 1) for row in thing])


def is_held(prices, one, other, rows, number, place):
    """Whether a number of POTENTIALS is no greater than those above it and ahead of it let it be."""
    worth = rows[number][place]
    if number > 0 and worth > rows[number - 1][place] + prices[LEFT_OUT]:
        return False
    if place > 0 and worth > rows[number][place - 1] + prices[PUT_IN]:
        return False
    if number == 0 or place == 0:
        return True
    return worth <= rows[number - 1][place - 1] + otherwise_price(prices, one[number - 1], other[place - 1])


def check_change(prices, one, other, paper):
    """Whether something is a PAPER of the CHANGE of one MESSAGE into another one."""
    need_question(prices, one, other)
    if not isinstance(paper, tuple) or len(paper) != 2:
        return False
    steps, rows = paper
    cost = cost_of_making(prices, one, other, steps)
    if cost is None or not are_potentials_by(one, other, rows):
        return False
    if rows[0][0] != 0 or rows[-1][-1] != cost:
        return False
    places = [(number, place) for number in range(len(rows)) for place in range(len(rows[0]))]
    return all([is_held(prices, one, other, rows, number, place) for number, place in places])
