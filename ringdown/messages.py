"""Messages, what it costs to change one into another one, and the steps by which it goes."""

from ringdown.errors import BadMessage, BadPaper, BadPrices
from ringdown.words import is_among, is_name

MOST_WORDS = 6
MOST_STEPS = 12
DEAREST = 9

# What stands where in PRICES.
DROPPED = 0
OVERHEARD = 1
LEFT_OUT = 2
PUT_IN = 3
PUT_OTHERWISE = 4
BROKEN_OFF = 5
MANY_PRICES = 6


def first_no_word(things):
    """The number of the first of things that is no word of a message, or None."""
    for number, thing in enumerate(things):
        if not is_name(thing):
            return number
    return None


def are_so_many_words(thing):
    """Whether thing is a tuple of as many things as a MESSAGE may have words."""
    return isinstance(thing, tuple) and 1 <= len(thing) <= MOST_WORDS


def is_message(thing):
    """Whether thing is a MESSAGE."""
    return are_so_many_words(thing) and first_no_word(thing) is None


def need_message(thing):
    """Nothing of a MESSAGE, else BadMessage."""
    if not are_so_many_words(thing):
        raise BadMessage()
    number = first_no_word(thing)
    if number is not None:
        raise BadMessage(number)


def need_prices(thing):
    """Nothing of PRICES, else BadPrices."""
    if not isinstance(thing, tuple) or len(thing) != MANY_PRICES:
        raise BadPrices()
    for number, price in enumerate(thing):
        if not is_among(price, 0, DEAREST):
            raise BadPrices(number)


def otherwise_price(prices, word, other):
    """What it costs that the other word stands where this one stood."""
    return 0 if word == other else prices[PUT_OTHERWISE]


def cost_row_below(prices, row, word, other):
    """The row of costs by one word more; row: those of the words ahead, by 0, 1, .. words of the other message."""
    costs = [row[0] + prices[LEFT_OUT]]
    for place, other_word in enumerate(other):
        over = row[place] + otherwise_price(prices, word, other_word)
        costs.append(min(over, row[place + 1] + prices[LEFT_OUT], costs[place] + prices[PUT_IN]))
    return costs


def cost_rows(prices, one, other):
    """What the first 0, 1, .. words of the one cost to be changed into the first 0, 1, .. words of the other."""
    rows = [[place * prices[PUT_IN] for place in range(len(other) + 1)]]
    for word in one:
        rows.append(cost_row_below(prices, rows[-1], word, other))
    return rows


def need_question(prices, one, other):
    """Nothing of PRICES and two MESSAGEs, else BadPrices or BadMessage."""
    need_prices(prices)
    need_message(one)
    need_message(other)


def change_cost(prices, one, other):
    """What the CHANGE of one MESSAGE into another one costs."""
    need_question(prices, one, other)
    return cost_rows(prices, one, other)[-1][-1]


def last_step(prices, rows, one, other):
    """A last step of those that cost least, by the rows of costs; at least one of the messages has a word."""
    many, many_other = len(one), len(other)
    cost = rows[many][many_other]
    if many > 0 and cost == rows[many - 1][many_other] + prices[LEFT_OUT]:
        return ("left",)
    if many_other > 0 and cost == rows[many][many_other - 1] + prices[PUT_IN]:
        return ("put", other[-1])
    return ("kept",) if one[-1] == other[-1] else ("other", other[-1])


def steps_of(prices, one, other):
    """STEPS that cost the least of all that make the one MESSAGE into the other."""
    need_question(prices, one, other)
    rows = cost_rows(prices, one, other)
    steps = []
    rest, rest_other = one, other
    while rest or rest_other:
        step = last_step(prices, rows, rest, rest_other)
        steps.insert(0, step)
        if step[0] != "put":
            rest = rest[:-1]
        if step[0] != "left":
            rest_other = rest_other[:-1]
    return tuple(steps)


def is_step(thing):
    """Whether thing can be a step, along whatever message."""
    if not isinstance(thing, tuple) or not 1 <= len(thing) <= 2 or not isinstance(thing[0], str):
        return False
    if thing[0] in ("kept", "left"):
        return len(thing) == 1
    return thing[0] in ("other", "put") and len(thing) == 2 and is_name(thing[1])


def can_go(step, rest):
    """Whether a step can go where these words of the message are left."""
    if step[0] == "put":
        return True
    return len(rest) > 0 and (step[0] != "other" or step[1] != rest[0])


def first_misstep(message, steps):
    """The number of the first step that can't be or can't go, or how many there are where words are left; or None."""
    rest = message
    for number, step in enumerate(steps):
        if not is_step(step) or not can_go(step, rest):
            return number
        if step[0] != "put":
            rest = rest[1:]
    return len(steps) if rest else None


def need_steps(message, steps):
    """Nothing of STEPS that go along a MESSAGE, else BadPaper."""
    if not isinstance(steps, tuple) or len(steps) > MOST_STEPS:
        raise BadPaper()
    number = first_misstep(message, steps)
    if number is not None:
        raise BadPaper(number)


def step_price(prices, step):
    """What a step costs."""
    if step[0] == "left":
        return prices[LEFT_OUT]
    if step[0] == "put":
        return prices[PUT_IN]
    return prices[PUT_OTHERWISE] if step[0] == "other" else 0


def words_made(message, steps):
    """The words that STEPS make of a MESSAGE."""
    words = []
    rest = message
    for step in steps:
        if step[0] == "kept":
            words.append(rest[0])
        elif step[0] != "left":
            words.append(step[1])
        if step[0] != "put":
            rest = rest[1:]
    return tuple(words)


def made_by(prices, one, steps):
    """(WORDS, COST): what STEPS make of a MESSAGE, and what they cost."""
    need_prices(prices)
    need_message(one)
    need_steps(one, steps)
    return (words_made(one, steps), sum([step_price(prices, step) for step in steps]))
