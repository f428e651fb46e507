"""CASEs: who heard what, the stories that tell how it came to that, and what they cost."""

from ringdown.caseparts import CaseParts, states_left, story_cost_of
from ringdown.errors import BadHeard, BadPaper, NoName
from ringdown.leasttables import price_of
from ringdown.messages import is_message, need_message, need_prices
from ringdown.storycounts import count_cheapest
from ringdown.tree import need_away, names_of
from ringdown.words import is_name

MOST_HEARD = 16


def is_state(thing):
    """Whether thing is a MESSAGE, or () for nothing."""
    return isinstance(thing, tuple) and (len(thing) == 0 or is_message(thing))


def can_be_heard(thing, there, ahead):
    """Whether thing can be a row of HEARD behind that of the name ahead, by those who are there."""
    if not isinstance(thing, tuple) or len(thing) != 2:
        return False
    name, state = thing
    return is_name(name) and name in there and name > ahead and is_state(state)


def need_heard(there, heard):
    """Nothing of HEARD, else BadHeard."""
    if not isinstance(heard, tuple) or len(heard) > MOST_HEARD:
        raise BadHeard()
    ahead = ""
    for number, row in enumerate(heard):
        if not can_be_heard(row, there, ahead):
            raise BadHeard(number)
        ahead = row[0]


def need_case(case):
    """Nothing of a CASE, else an error of the first part of it that can't be."""
    if not isinstance(case, tuple) or len(case) != 5:
        raise BadHeard()
    tree, away, prices, first, heard = case
    need_away(tree, away)
    need_prices(prices)
    need_message(first)
    need_heard([name for name in names_of(tree) if name not in away], heard)


def case_parts(case):
    """A CASE taken apart; refused is what is none."""
    need_case(case)
    return CaseParts(case)


def states_of(case):
    """The STATES of a CASE, rising."""
    return tuple(case_parts(case).states)


def need_there_or_bell(parts, name):
    """Nothing of one who is there, or of the bell, else NoName."""
    if not isinstance(name, str) or name not in parts.rows:
        raise NoName(name)


def row_of(case, name=""):
    """The ROW of one who is there, or of the bell; NoName of anybody else."""
    parts = case_parts(case)
    need_there_or_bell(parts, name)
    return tuple(parts.rows[name])


def stands_in_story(parts, thing, name):
    """Whether thing is a row of a STORY for one who is there."""
    if not isinstance(thing, tuple) or len(thing) != 2:
        return False
    row_name, state = thing
    if not isinstance(row_name, str) or row_name != name or not is_state(state):
        return False
    return state in states_left(parts, parts.heard, name)


def need_story(parts, story):
    """Nothing of a STORY of a CASE, else BadPaper."""
    if not isinstance(story, tuple) or len(story) != len(parts.there):
        raise BadPaper()
    for number, name in enumerate(parts.there):
        if not stands_in_story(parts, story[number], name):
            raise BadPaper(number)


def cost_of_story(parts, story):
    """What a STORY costs."""
    told_states = {name: state for name, state in story}
    told_states[""] = parts.heard[""]
    return story_cost_of(parts, told_states)


def story_cost(case, story):
    """What a STORY of a CASE costs; BadPaper of what is none."""
    parts = case_parts(case)
    need_story(parts, story)
    return cost_of_story(parts, story)


def story_price(case):
    """What the CHEAPEST STORIES of a CASE cost."""
    parts = case_parts(case)
    return price_of(parts, parts.heard)


def count_stories(case):
    """How many STORIES of a CASE are CHEAPEST."""
    return count_cheapest(case_parts(case))


def with_state(fixed, name, state):
    """The STATEs that are fixed, and one more."""
    more = {each: fixed[each] for each in fixed}
    more[name] = state
    return more


def least_of(parts):
    """The least of the CHEAPEST STORIES: one by one each has the least STATE by which some STORY costs no more."""
    fixed = parts.heard
    price = price_of(parts, fixed)
    for name in parts.there:
        choices = [with_state(fixed, name, state) for state in states_left(parts, fixed, name)]
        fixed = [choice for choice in choices if price_of(parts, choice) == price][0]
    return tuple([(name, fixed[name]) for name in parts.there])


def least_story(case):
    """The least of the CHEAPEST STORIES of a CASE, as tuples."""
    return least_of(case_parts(case))
