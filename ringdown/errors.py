"""What is refused, and by which error.

Their texts are left to Python: a thing that is refused may be of any size, so none is written into a text here.
"""


class RingError(ValueError):
    """Any refusal of what is handed in."""


class BadRow(RingError):
    """A row of a text, and a word in it, that can't stand."""

    def __init__(self, row, word):
        self.row = row
        self.word = word


class BadTree(RingError):
    """What is no TREE: the part of it, and the number of a person."""

    def __init__(self, part, number=None):
        self.part = part
        self.number = number


class BadAway(RingError):
    """What doesn't tell who is AWAY: the number of the first thing that can't be."""

    def __init__(self, number=None):
        self.number = number


class BadCall(RingError):
    """CALLs that aren't the RING's: the number of the first one that isn't."""

    def __init__(self, number=None):
        self.number = number


class BadPrices(RingError):
    """What are no PRICES: the number of the first thing that can't be."""

    def __init__(self, number=None):
        self.number = number


class BadMessage(RingError):
    """What is no MESSAGE: the number of the first thing that can't be."""

    def __init__(self, number=None):
        self.number = number


class BadHeard(RingError):
    """What wasn't heard like this: the number of the first row that can't be."""

    def __init__(self, number=None):
        self.number = number


class BadPaper(RingError):
    """A PAPER that doesn't show what it should: the place in it."""

    def __init__(self, place=None):
        self.place = place


class Twice(RingError):
    """What is there already."""


class OutOfPlace(RingError):
    """What can't stand there, or isn't of the kind that is asked."""


class TooGreat(RingError):
    """One more than there may be."""


class MissError(LookupError):
    """What isn't there."""


class NoName(MissError):
    """What is no NAME of the TREE."""

    def __init__(self, name):
        self.name = name


class NoHappening(MissError):
    """What was never rung."""

    def __init__(self, word):
        self.word = word


class NoMark(MissError):
    """A word under which nothing is kept."""

    def __init__(self, word):
        self.word = word


class PhoneError(RuntimeError):
    """What can't be done by now."""


class Busy(PhoneError):
    """One who is on a phone, and until which minute."""

    def __init__(self, name, until):
        self.name = name
        self.until = until


class TooLate(PhoneError):
    """A minute behind the last one."""

    def __init__(self, minute):
        self.minute = minute
