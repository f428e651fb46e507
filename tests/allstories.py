"""All stories of a case gone through, for tests to hold the program against; it shares nothing with the package."""

from itertools import product
from random import Random

from tests.minutes import calls_by_minutes
from tests.samples import NAMES, mixed_trees


def there_of(case):
    return sorted(row[0] for row in case[0][2] if row[0] not in case[1])


def carriers_of(case):
    return {call[3]: call[2] for call in calls_by_minutes(case[0], case[1])}


def row_by_calls(case, name):
    return [call[3] for call in calls_by_minutes(case[0], case[1]) if call[2] == name and call[4]]


def states_by_hand(case):
    return sorted({(), case[3]} | {state for _, state in case[4]})


def cost_of_change(prices, one, other):
    """By how the first words go, each way gone through."""
    if not one:
        return len(other) * prices[3]
    if not other:
        return len(one) * prices[2]
    over = 0 if one[0] == other[0] else prices[4]
    return min(over + cost_of_change(prices, one[1:], other[1:]), prices[2] + cost_of_change(prices, one[1:], other),
               prices[3] + cost_of_change(prices, one, other[1:]))


def cost_handed(prices, one, other):
    if one == other:
        return 0
    if other == ():
        return prices[0]
    if one == ():
        return prices[1]
    return cost_of_change(prices, one, other)


def cost_of_row(prices, state, row):
    costs = [sum(cost_handed(prices, state, each) for each in row)]
    if state != ():
        for at in range(len(row)):
            behind = sum(prices[1] for each in row[at:] if each != ())
            costs.append(sum(cost_handed(prices, state, each) for each in row[:at]) + prices[5] + behind)
    return min(costs)


def all_stories(case):
    states = states_by_hand(case)
    heard = dict(case[4])
    there = there_of(case)
    for chosen in product(*[[heard[name]] if name in heard else states for name in there]):
        yield tuple(zip(there, chosen))


class Costs:
    """What stories of one case cost, the rows and changes being looked up once."""

    def __init__(self, case):
        self.case = case
        self.rows = {name: row_by_calls(case, name) for name in [""] + there_of(case)}
        self.lost = [name for name in there_of(case) if name not in carriers_of(case)]
        self.known = {}

    def of(self, story):
        prices, first = self.case[2:4]
        states = {**dict(story), "": first}
        total = sum(prices[1] for name in self.lost if states[name] != ())
        for name, row in self.rows.items():
            asked = (states[name], tuple(states[each] for each in row))
            if asked not in self.known:
                self.known[asked] = cost_of_row(prices, *asked)
            total += self.known[asked]
        return total


def story_costs(case):
    costs = Costs(case)
    return {story: costs.of(story) for story in all_stories(case)}


PRICES = ((1, 2, 3, 4, 5, 6), (0, 0, 0, 0, 0, 0), (9, 9, 9, 9, 9, 9), (5, 3, 1, 1, 1, 1), (4, 4, 4, 4, 4, 0),
          (2, 1, 3, 3, 3, 2), (1, 0, 2, 2, 3, 3), (0, 5, 1, 2, 3, 4), (3, 3, 2, 2, 2, 1), (9, 1, 5, 5, 5, 2))
MESSAGES = (("a",), ("b",), ("a", "b"), ("b", "a"), ("a", "b", "c"), ("c", "c"))


def mixed_cases(many, count, seed):
    """Cases of trees of that many people, the same ones each time the tests run."""
    dice = Random(seed)
    for at, tree in enumerate(mixed_trees(many, count, seed)):
        names = [row[0] for row in tree[2]]
        away = tuple(name for name in names if dice.random() < 0.25)
        there = [name for name in names if name not in away]
        heard = []
        for name in sorted(dice.sample(there, min(len(there), dice.randint(0, 3)))):
            heard.append((name, dice.choice(((),) + MESSAGES)))
        yield (tree, away, PRICES[at % len(PRICES)], dice.choice(MESSAGES), tuple(heard))


# Somebody lost; a row of five; a chain; nobody.
SOME_CASES = (
    ((2, 1, (("a", "", 1), ("b", "a", 2), ("c", "a", 3), ("d", "", 1))), ("a",), PRICES[0], ("a", "b"), (("b", ("a",)),)),
    ((2, 1, (("a", "", 1), ("b", "a", 2), ("c", "a", 3), ("d", "", 1))), ("a",), PRICES[6], ("a", "b"), (("d", ("c",)),)),
    ((2, 0, tuple((name, "", 1) for name in NAMES[:5])), (), PRICES[4], ("a", "b"), ((NAMES[1], ("b",)), (NAMES[3], ()))),
    ((2, 0, tuple((name, "", 1) for name in NAMES[:5])), (), PRICES[7], ("a",), ((NAMES[2], ()), (NAMES[4], ("c",)))),
    ((2, 0, tuple((name, NAMES[at - 1] if at else "", 1) for at, name in enumerate(NAMES[:5]))), (), PRICES[0],
     ("a", "b", "c"), ((NAMES[1], ()), (NAMES[4], ("a", "c")))),
    ((2, 0, ()), (), PRICES[0], ("a",), ()),
    ((2, 0, (("a", "", 1), ("b", "a", 1))), ("a", "b"), PRICES[0], ("a",), ()),
)
