"""The deeds that a desk does, each to a PLAN and a RINGING that are handed in, or in the place of these."""

from ringdown.bookread import read_book
from ringdown.deskwords import DONE_WORD, text_heard, thing_said
from ringdown.lineforms import RINGING_DEEDS, do_deed, things_handed
from ringdown.plan import Plan
from ringdown.ringing import Ringing

# Which words stand behind the name of a deed that isn't one of a RINGING.
PLAN_DEEDS = {
    "set_deep": ("number",),
    "put_in_order": ("name",),
    "put_back": ("name",),
    "keep": ("name",),
    "drop": ("name",),
}
LIVE_STEPS = {
    "go": ("number",),
    "till_quiet": (),
}
# By which deeds the last of these words may lack.
MAY_LACK = ("join", "move", "put_in_order", "go")


def kinds_of_deed(words):
    """Of which kinds the words behind the name of a deed are; None of words that name none."""
    if len(words) < 2:
        return None
    word = words[1]
    if words[0] == "plan":
        return RINGING_DEEDS[word] if word in RINGING_DEEDS and word != "ring" else PLAN_DEEDS.get(word)
    if words[0] == "live":
        return RINGING_DEEDS[word] if word in RINGING_DEEDS else LIVE_STEPS.get(word)
    return None


def things_of_deed(words):
    """What the words of a deed's line hand in; None of words that are none."""
    kinds = kinds_of_deed(words)
    if kinds is None:
        return None
    return things_handed(kinds, 1 if words[1] in MAY_LACK else 0, words[2:])


def do_to_plan(plan, word, things):
    """Does a deed to a PLAN; tells the answer."""
    if word == "set_deep":
        plan.set_deep(things[0])
    elif word == "put_in_order":
        plan.put_in_order(things[0] if len(things) == 1 else "last")
    elif word == "put_back":
        plan.put_back(things[0])
    elif word == "keep":
        plan.keep(things[0])
    elif word == "drop":
        plan.drop(things[0])
    else:
        do_deed(plan, word, things)
    return DONE_WORD


def do_to_live(live, word, things):
    """Does a deed to a RINGING; tells the answer."""
    if word == "go":
        return thing_said("minute", live.go(things[0] if len(things) == 1 else 1))
    if word == "till_quiet":
        return thing_said("minute", live.till_quiet())
    do_deed(live, word, things)
    return DONE_WORD


def is_deed(words):
    """Whether words are a line by which something is done."""
    if words[0] == "read":
        return len(words) > 1
    return words in (["start"], ["adopt"]) or things_of_deed(words) is not None


def done_by(plan, live, line, words):
    """Does the deed of a line; tells the answer, the PLAN and the RINGING behind it."""
    if words[0] == "start":
        return DONE_WORD, plan, Ringing(plan.tree(), plan.away())
    if words[0] == "adopt":
        return DONE_WORD, Plan(live.tree(), live.away()), live
    if words[0] == "read":
        _, _, book = line.partition(" ")
        return DONE_WORD, plan, read_book(text_heard(book))
    things = things_of_deed(words)
    if words[0] == "plan":
        return do_to_plan(plan, words[1], things), plan, live
    return do_to_live(live, words[1], things), plan, live
