"""The questions that a desk answers."""

from ringdown.deskwords import names_said, rows_said, text_said, thing_said
from ringdown.lineforms import things_handed
from ringdown.ringbook import book_text

# Which words stand behind the name of a question.
PLAN_QUESTIONS = {
    "told": ("name",),
    "last": (),
    "quiet": (),
    "lost": (),
    "calls": (),
    "worst": ("number", "name", "name"),
    "soonest": (),
    "kept": (),
    "changed": (),
    "looked": (),
    "text": (),
}
LIVE_QUESTIONS = {
    "now": (),
    "happenings": (),
    "standing": ("name", "name"),
    "told": ("name",),
    "missed": ("name",),
    "line": ("name",),
    "going": (),
    "calls": (),
    "chain": ("name", "name"),
    "forecast": ("name",),
    "is_quiet": (),
    "book": (),
}
# By which questions the last of these words may lack.
MAY_LACK = ("worst", "line")

# Of which kinds the things in told rows are.
CALL = ("minute", "minute", "name", "name", "truth")
LIVE_CALL = ("minute", "minute", "name", "name", "truth", "name")
MINUTE_ROW = ("minute", "name")
LINE_ROW = ("name", "name")
CHANGED_ROW = ("name", "minute", "minute")
LATE_ROW = ("name", "number")


def plan_answer(plan, word, things):
    """The answer to a question about the PLAN."""
    if word == "told":
        return thing_said("minute", plan.told(things[0]))
    if word == "last":
        return thing_said("minute", plan.last())
    if word == "quiet":
        return thing_said("minute", plan.quiet())
    if word == "lost":
        return names_said(plan.lost())
    if word == "calls":
        return rows_said(CALL, plan.calls())
    if word == "worst":
        name = things[2] if len(things) == 3 else ""
        return thing_said("number", plan.worst(things[0], things[1], name))
    if word == "soonest":
        return thing_said("number", plan.soonest())
    if word == "kept":
        return names_said(plan.kept())
    if word == "changed":
        return rows_said(CHANGED_ROW, plan.changed())
    if word == "looked":
        return thing_said("number", plan.looked())
    return text_said(str(plan))


def state_answer(live, word, things):
    """The answer to a question for how the RINGING stands, not by a HAPPENING."""
    if word == "now":
        return thing_said("minute", live.now())
    if word == "happenings":
        return rows_said(MINUTE_ROW, live.happenings())
    if word == "line":
        return rows_said(LINE_ROW, live.line(things[0] if len(things) == 1 else ""))
    if word == "going":
        return rows_said(LIVE_CALL, live.going())
    if word == "calls":
        return rows_said(LIVE_CALL, live.calls())
    if word == "is_quiet":
        return thing_said("truth", live.is_quiet())
    return text_said(book_text(live))


def live_answer(live, word, things):
    """The answer to a question about the RINGING."""
    if word == "standing":
        return live.standing(things[0], things[1])
    if word == "told":
        return rows_said(MINUTE_ROW, live.told(things[0]))
    if word == "missed":
        return names_said(live.missed(things[0]))
    if word == "chain":
        return rows_said(MINUTE_ROW, live.chain(things[0], things[1]))
    if word == "forecast":
        return rows_said(MINUTE_ROW, live.forecast(things[0]))
    return state_answer(live, word, things)


def late_rows(plan, live, happening):
    """(NAME, how many minutes later the RINGING tells it than the PLAN), where that is another minute."""
    forecast = live.forecast(happening)
    rung = [minute for minute, each in live.happenings() if each == happening][0]
    names = [person[0] for person in plan.tree()[2]]
    rows = []
    for minute, name in forecast:
        planned = plan.told(name) if name in names else None
        if planned is not None and minute - rung != planned:
            rows.append((name, minute - rung - planned))
    return rows


def late_answer(plan, live, words):
    """The answer to "late" and a HAPPENING; None of other words."""
    things = things_handed(("name",), 0, words)
    return None if things is None else rows_said(LATE_ROW, late_rows(plan, live, things[0]))


def answer_to(plan, live, words):
    """The answer to a question; None of words that are none."""
    if words[0] == "late":
        return late_answer(plan, live, words[1:])
    if len(words) == 1:
        return None
    word = words[1]
    may_lack = 1 if word in MAY_LACK else 0
    if words[0] == "plan" and word in PLAN_QUESTIONS:
        things = things_handed(PLAN_QUESTIONS[word], may_lack, words[2:])
        return None if things is None else plan_answer(plan, word, things)
    if words[0] == "live" and word in LIVE_QUESTIONS:
        things = things_handed(LIVE_QUESTIONS[word], may_lack, words[2:])
        return None if things is None else live_answer(live, word, things)
    return None
