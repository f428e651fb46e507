"""A RINGING: calls that go on while people come and go, and several things happen at once."""

from ringdown.changes import joined, left, moved, retalked, rewaited
from ringdown.errors import BadTree, Busy, NoHappening, NoName, OutOfPlace, TooGreat, TooLate, Twice
from ringdown.ringdeeds import come_to_phone, go_from_phone, happenings_of, join_in, leave_it, move_it, ring_it
from ringdown.ringminutes import calls_going, go_on_till, go_on_till_rest
from ringdown.rings import ANSWERED, CALLEE, CALLER, END
from ringdown.ringstate import HAPPENING, RingState, call_on_phone, copy_of, is_at_rest, stand_by_tree, told_rows_of
from ringdown.tree import NO_PEOPLE, away_or_nobody, in_walk, is_bell, need_name, need_tree
from ringdown.words import LAST_MINUTE, clock_text, is_among, is_name

MOST_HAPPENINGS = 6
MOST_DEEDS = 200


def need_not_deep(tree):
    """Nothing of a TREE of DEEP 0, else BadTree."""
    need_tree(tree)
    if tree[1] != 0:
        raise BadTree("deep")


def place_in(tree, name):
    """The number of those who stand ahead of a NAME in the LIST in which it stands."""
    callers = {person[0]: person[1] for person in tree[2]}
    return [person[0] for person in tree[2] if person[1] == callers[name]].index(name)


def need_no_phone(state, name):
    """Nothing of one who is on no phone, else Busy."""
    call = call_on_phone(state, name)
    if call is not None:
        raise Busy(name, call[END])


def need_happening(state, happening):
    """Nothing of a HAPPENING that was rung, else NoHappening."""
    if not is_name(happening) or happening not in happenings_of(state):
        raise NoHappening(happening)


def need_in_time(minute):
    """Nothing of a MINUTE up to the last one, else TooLate."""
    if minute > LAST_MINUTE:
        raise TooLate(minute)


def minute_rung(state, happening):
    """The minute at which a HAPPENING was rung."""
    return [minute for minute, each in state.rung if each == happening][0]


def call_that_told(state, happening, name):
    """The CALL by which a NAME was told of a HAPPENING, or None."""
    for call in state.ended:
        if call[HAPPENING] == happening and call[CALLEE] == name and call[ANSWERED]:
            return call
    return None


def chain_to(state, happening, name):
    """(MINUTE, NAME) from the BELL on, each told by the one ahead, till that NAME; nobody where it isn't told."""
    rows = []
    call = call_that_told(state, happening, name)
    while call is not None:
        rows.insert(0, (call[END], call[CALLEE]))
        if call[CALLER] == "":
            rows.insert(0, (minute_rung(state, happening), ""))
        # Nobody told the BELL: so there is no call any more behind one of its own.
        call = call_that_told(state, happening, call[CALLER])
    return rows


def names_with(state, happening, word):
    """The NAMEs of that STANDING, rising."""
    return [name for name in sorted(state.parts.names) if state.words[(happening, name)] == word]


def words_of_state(state):
    """NOW, and how many are told of each HAPPENING, as words."""
    words = [clock_text(state.minute)]
    for happening in happenings_of(state):
        told = names_with(state, happening, "told")
        words.append(f"{happening} {len(told)}")
    return words


def are_same(state, other):
    """Whether two stand alike at one minute, and the same went on and goes on."""
    if state.minute != other.minute or state.from_tree != other.from_tree or state.rung != other.rung:
        return False
    if sorted(state.away_ones) != sorted(other.away_ones) or state.words != other.words or state.rows != other.rows:
        return False
    return calls_going(state) == calls_going(other) and state.ended == other.ended


class Ringing:
    """A TREE, a minute, and the HAPPENINGs that were rung."""

    def __init__(self, tree=None, away=None):
        told_tree = NO_PEOPLE if tree is None else tree
        need_not_deep(told_tree)
        told_away = away_or_nobody(told_tree, away)
        self._first = (told_tree, told_away)
        self._state = RingState(in_walk(told_tree), told_away)
        self._deeds = []

    def _need_one_more_deed(self):
        """Nothing while one deed more may be done, else TooGreat."""
        if len(self._deeds) == MOST_DEEDS:
            raise TooGreat("that many deeds were done already")

    def _note(self, deed):
        """Keeps a deed that was done: its word, and what was handed in."""
        self._deeds.append((self._state.minute,) + deed)

    def ring(self, happening):
        """Rings a HAPPENING."""
        rung = happenings_of(self._state)
        if not is_name(happening):
            raise OutOfPlace("no name")
        if happening in rung:
            raise Twice("a happening that was rung already")
        if len(rung) == MOST_HAPPENINGS:
            raise TooGreat("six happenings were rung already")
        self._need_one_more_deed()
        ring_it(self._state, happening)
        self._note(("ring", happening))

    def join(self, name, caller, talk, place=None):
        """Lets one more join."""
        if is_name(name) and name in self._state.ever:
            raise Twice("a name that was there already")
        tree = joined(self._state.from_tree, name, caller, talk, place)
        self._need_one_more_deed()
        join_in(self._state, tree, name, caller)
        self._note(("join", name, caller, talk, place_in(tree, name)))

    def leave(self, name):
        """Lets one leave."""
        tree = left(self._state.from_tree, name)
        self._need_one_more_deed()
        need_no_phone(self._state, name)
        leave_it(self._state, tree, name)
        self._note(("leave", name))

    def move(self, name, caller, place=None):
        """Lets one move, with all BELOW."""
        tree = moved(self._state.from_tree, name, caller, place)
        self._need_one_more_deed()
        move_it(self._state, tree, name, caller)
        self._note(("move", name, caller, place_in(tree, name)))

    def set_talk(self, name, talk):
        """Sets the TALK of a NAME."""
        tree = retalked(self._state.from_tree, name, talk)
        self._need_one_more_deed()
        stand_by_tree(self._state, tree)
        self._note(("set_talk", name, talk))

    def set_wait(self, wait):
        """Sets WAIT."""
        tree = rewaited(self._state.from_tree, wait)
        self._need_one_more_deed()
        stand_by_tree(self._state, tree)
        self._note(("set_wait", wait))

    def go_away(self, name):
        """Lets one go away."""
        need_name(self._state.from_tree, name)
        if name in self._state.away_ones:
            raise OutOfPlace("one who is away")
        self._need_one_more_deed()
        need_no_phone(self._state, name)
        go_from_phone(self._state, name)
        self._note(("go_away", name))

    def come_back(self, name):
        """Lets one come back."""
        need_name(self._state.from_tree, name)
        if name not in self._state.away_ones:
            raise OutOfPlace("one who is there")
        self._need_one_more_deed()
        come_to_phone(self._state, name)
        self._note(("come_back", name))

    def go(self, minutes=1):
        """Goes on for so many minutes; tells NOW."""
        if not is_among(minutes, 1, LAST_MINUTE):
            raise OutOfPlace("no whole number from 1 to 5,999")
        need_in_time(self._state.minute + minutes)
        go_on_till(self._state, self._state.minute + minutes)
        return self._state.minute

    def till_quiet(self):
        """Goes on till it is QUIET; tells NOW."""
        state = copy_of(self._state)
        go_on_till_rest(state)
        need_in_time(state.minute)
        self._state = state
        return state.minute

    def now(self):
        """NOW."""
        return self._state.minute

    def tree(self):
        """The TREE, in WALK order."""
        return self._state.from_tree

    def away(self):
        """Who is AWAY, rising."""
        return tuple(sorted(self._state.away_ones))

    def is_quiet(self):
        """Whether no CALL goes on and no LINE has a row."""
        return is_at_rest(self._state)

    def happenings(self):
        """(MINUTE, HAPPENING), as rung."""
        return list(self._state.rung)

    def standing(self, happening, name):
        """The STANDING of a NAME."""
        need_happening(self._state, happening)
        need_name(self._state.from_tree, name)
        return self._state.words[(happening, name)]

    def told(self, happening):
        """(MINUTE, NAME) of all who were told, as they were."""
        need_happening(self._state, happening)
        return told_rows_of(self._state, happening)

    def missed(self, happening):
        """Who is missed, rising."""
        need_happening(self._state, happening)
        return names_with(self._state, happening, "missed")

    def line(self, name=""):
        """The LINE of a NAME, or of the BELL: (HAPPENING, NAME) of those still to be called."""
        if not is_bell(name):
            need_name(self._state.from_tree, name)
        return list(self._state.rows[name])

    def going(self):
        """The CALLs that go on, by CALLERs rising."""
        return calls_going(self._state)

    def calls(self):
        """The CALLs that ended, as they did."""
        return list(self._state.ended)

    def chain(self, happening, name):
        """(MINUTE, NAME) from the BELL on, each told by the one ahead, till that NAME; nobody where it isn't told."""
        need_happening(self._state, happening)
        if not is_name(name) or name not in self._state.ever:
            raise NoName(name)
        return chain_to(self._state, happening, name)

    def forecast(self, happening):
        """What told(happening) is once it went till QUIET, however late."""
        need_happening(self._state, happening)
        state = copy_of(self._state)
        go_on_till_rest(state)
        return told_rows_of(state, happening)

    def deeds(self):
        """(MINUTE, WORD, what was handed in ..) of each deed, as done."""
        return list(self._deeds)

    def first(self):
        """(TREE, AWAY) that it had at first, as they were handed in."""
        return self._first

    def copied(self):
        """A RINGING like it, on its own."""
        tree, away = self._first
        other = Ringing(tree, away)
        other._state = copy_of(self._state)
        other._deeds = list(self._deeds)
        return other

    def __eq__(self, other):
        """Whether the other one is a RINGING that stands alike."""
        return isinstance(other, Ringing) and are_same(self._state, other._state)

    def __len__(self):
        """How many calls ended."""
        return len(self._state.ended)

    def __str__(self):
        """NOW, and each HAPPENING with how many are told."""
        return " ".join(words_of_state(self._state))

    def __repr__(self):
        """NOW, and each HAPPENING with how many are told."""
        return " ".join(words_of_state(self._state))
