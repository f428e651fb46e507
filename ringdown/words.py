"""Names, whole numbers and minutes, and the words that tell them in a text."""

from ringdown.errors import OutOfPlace

LAST_MINUTE = 5999
LONGEST_NAME = 8
MOST_FIGURES = 5


def is_whole(thing):
    """Whether thing is a whole number; True and False are none."""
    return isinstance(thing, int) and not isinstance(thing, bool)


def is_among(thing, least, most):
    """Whether thing is a whole number from least to most."""
    if not is_whole(thing) or not is_whole(least) or not is_whole(most):
        return False
    return least <= thing <= most


def is_name(thing):
    """Whether thing is a NAME: one to eight small letters."""
    if not isinstance(thing, str) or not 1 <= len(thing) <= LONGEST_NAME:
        return False
    return all(["a" <= sign <= "z" for sign in thing])


def are_figures(text):
    """Whether text has nothing but the figures 0 to 9."""
    return all(["0" <= sign <= "9" for sign in text])


def number_of(word):
    """The number that a word tells, or None."""
    # The length comes first: Python doesn't read numbers of some thousand figures.
    if not isinstance(word, str) or not 1 <= len(word) <= MOST_FIGURES:
        return None
    if not are_figures(word) or (word[0] == "0" and word != "0"):
        return None
    return int(word)


def words_of(row):
    """The words of a row, or None where not just one blank stands between."""
    if not isinstance(row, str):
        return None
    words = row.split(" ")
    return None if "" in words else words


def minute_of(word):
    """The MINUTE that a word like 12:30 tells, or None."""
    if not isinstance(word, str):
        return None
    head, _, tail = word.partition(":")
    hours = number_of(head)
    if hours is None or len(tail) != 2 or not are_figures(tail):
        return None
    rest = int(tail)
    minute = hours * 60 + rest
    return minute if rest < 60 and minute <= LAST_MINUTE else None


def is_minute(thing):
    """Whether thing is a MINUTE."""
    return is_among(thing, 0, LAST_MINUTE)


def hours_text(minute):
    """A minute as a word: 12:30, or 100:00 behind the last MINUTE."""
    hours, rest = divmod(minute, 60)
    return f"{hours}:{rest:02d}"


def clock_text(minute):
    """A MINUTE as a word."""
    if not is_minute(minute):
        raise OutOfPlace("no minute from 0 to 5,999")
    return hours_text(minute)
