"""What deeds do to a RINGING; what is handed in here can be done."""

from ringdown.ringstate import holder_of, is_handed, put_behind, put_in_line, stand_by_tree, who_wait


def happenings_of(state):
    """The HAPPENINGs, in the order rung."""
    return [happening for _, happening in state.rung]


def line_with(state, row):
    """Whose LINE has a row."""
    return [name for name, rows in state.rows.items() if row in rows][0]


def take_out(state, happening, name):
    """Takes the row of one who is in line out of it; tells whose LINE and which place of it that was."""
    row = (happening, name)
    holder = line_with(state, row)
    place = state.rows[holder].index(row)
    del state.rows[holder][place]
    return holder, place


def ring_it(state, happening):
    """Rings a HAPPENING."""
    state.rung.append((state.minute, happening))
    for name in state.parts.names:
        state.words[(happening, name)] = "waiting"
    put_behind(state, happening, who_wait(state, happening, ""), "")


def wait_or_come(state, happening, name, caller):
    """Lets one who was never called come in line, if its CALLER is HANDED, else wait."""
    state.words[(happening, name)] = "waiting"
    if is_handed(state, happening, caller):
        put_behind(state, happening, [name], holder_of(state, happening, caller))


def join_in(state, tree, name, caller):
    """Lets one join; tree: the TREE behind that."""
    stand_by_tree(state, tree)
    state.ever.append(name)
    state.rows[name] = []
    for happening in happenings_of(state):
        wait_or_come(state, happening, name, caller)


def move_it(state, tree, name, caller):
    """Lets one move; tree: the TREE behind that."""
    stand_by_tree(state, tree)
    for happening in happenings_of(state):
        if (happening, name) not in state.bys:
            if state.words[(happening, name)] == "in line":
                take_out(state, happening, name)
            wait_or_come(state, happening, name, caller)


def hand_line_on(state, name):
    """Hands the LINE of one who goes on to the HOLDERs."""
    rows = state.rows[name]
    state.rows[name] = []
    for happening, each in rows:
        put_behind(state, happening, [each], holder_of(state, happening, state.bys[(happening, name)]))


def take_leaver_out(state, happening, name):
    """Takes one who leaves out of line; those of the LIST who wait come in their place, if they were never called."""
    waiting = who_wait(state, happening, name) if (happening, name) not in state.bys else []
    if state.words[(happening, name)] == "in line":
        holder, place = take_out(state, happening, name)
        put_in_line(state, happening, waiting, holder, place)


def hand_by_on(state, happening, name):
    """Lets those whose BY is one who leaves have that one's BY."""
    for key in list(state.bys):
        if key[0] == happening and state.bys[key] == name:
            state.bys[key] = state.bys[(happening, name)]


def leave_it(state, tree, name):
    """Lets one leave; tree: the TREE behind that."""
    hand_line_on(state, name)
    for happening in happenings_of(state):
        take_leaver_out(state, happening, name)
        hand_by_on(state, happening, name)
        del state.words[(happening, name)]
    stand_by_tree(state, tree)
    del state.rows[name]
    state.away_ones = [each for each in state.away_ones if each != name]


def go_from_phone(state, name):
    """Lets one go away."""
    hand_line_on(state, name)
    state.away_ones.append(name)


def come_to_phone(state, name):
    """Lets one come back."""
    state.away_ones = [each for each in state.away_ones if each != name]
    for happening in happenings_of(state):
        if state.words[(happening, name)] == "missed":
            put_behind(state, happening, [name], holder_of(state, happening, name))
