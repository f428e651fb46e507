"""What goes on by itself in a RINGING: ENDs, beginnings, and how it comes from minute to minute."""

from ringdown.ringstate import HAPPENING, call_on_phone, is_at_rest, is_here, put_behind, put_in_line, who_wait
from ringdown.rings import ANSWERED, CALLEE, CALLER, END
from ringdown.standings import caller_in


def end_call(state, call):
    """The END of a CALL."""
    caller, callee, happening = call[CALLER], call[CALLEE], call[HAPPENING]
    state.ended.append(call)
    state.handed[(happening, callee)] = True
    waiting = who_wait(state, happening, callee)
    if call[ANSWERED]:
        state.words[(happening, callee)] = "told"
        put_behind(state, happening, waiting, callee)
        return
    state.words[(happening, callee)] = "missed"
    put_in_line(state, happening, waiting, caller, 0)
    if is_here(state, callee):
        put_behind(state, happening, [callee], caller)


def calls_going(state):
    """The CALLs that go on, by CALLERs rising."""
    return sorted(state.phones, key=caller_in)


def end_calls(state):
    """The ENDs of this minute."""
    calls = calls_going(state)
    state.phones = [call for call in calls if call[END] != state.minute]
    for call in calls:
        if call[END] == state.minute:
            end_call(state, call)


def begin_call(state, caller):
    """Begins the first call in a LINE whose callee is on no phone, if there is one."""
    for place, row in enumerate(list(state.rows[caller])):
        happening, callee = row
        if call_on_phone(state, callee) is None:
            del state.rows[caller][place]
            there = is_here(state, callee)
            end = state.minute + (state.parts.talks[callee] if there else state.parts.wait)
            state.phones.append((state.minute, end, caller, callee, there, happening))
            state.words[(happening, callee)] = "called"
            state.bys[(happening, callee)] = caller
            return


def begin_calls(state):
    """The beginnings of this minute."""
    for caller in [""] + sorted(state.parts.names):
        if is_here(state, caller) and call_on_phone(state, caller) is None:
            begin_call(state, caller)


def go_on_till(state, last):
    """Goes on till a minute behind this one, of which there are the ENDs alone."""
    while state.minute < last:
        begin_calls(state)
        # Without an END nobody gets off a phone: so nothing begins till there is one.
        state.minute = min([call[END] for call in state.phones] + [last])
        end_calls(state)


def go_on_till_rest(state):
    """Goes on till no CALL goes on and no LINE has a row, however late."""
    while not is_at_rest(state):
        begin_calls(state)
        state.minute = min([call[END] for call in state.phones])
        end_calls(state)
