"""BOOKs read: ringings that stand again as they stood."""

from ringdown.errors import BadRow, MissError, PhoneError, RingError
from ringdown.lineforms import RINGING_DEEDS, do_deed, things_of, word_fits
from ringdown.plantext import read_plan_rows
from ringdown.ringing import Ringing
from ringdown.treetext import need_words, rows_of, words_in
from ringdown.words import minute_of

LAST_WORD = "now"


def is_in_time(ringing, word):
    """Whether a word is a MINUTE that isn't ahead of NOW."""
    minute = minute_of(word)
    return minute is not None and minute >= ringing.now()


def kinds_behind(words):
    """Of which kinds the words behind the second one of a row are, whatever that is."""
    return RINGING_DEEDS.get(words[1], ()) if len(words) > 1 else ()


def book_word_fits(ringing, words, place):
    """Whether the word at that place, from 1, of a row can stand there."""
    word = words[place - 1]
    if place == 1:
        return is_in_time(ringing, word)
    if place == 2:
        return word == LAST_WORD or word in RINGING_DEEDS
    kinds = kinds_behind(words)
    return place - 3 < len(kinds) and word_fits(kinds[place - 3], word)


def do_row(ringing, number, words):
    """Does the deed of a row; BadRow where it is refused."""
    try:
        do_deed(ringing, words[1], things_of(kinds_behind(words), words[2:]))
    except (RingError, MissError, PhoneError):
        raise BadRow(number, 2)


def read_deed(ringing, number, row):
    """Goes on to the minute of a row, and does its deed; tells whether it is the last row."""
    words = words_in(number, row)
    fits = [book_word_fits(ringing, words, place) for place in range(1, len(words) + 1)]
    need_words(number, fits, 2 + len(kinds_behind(words)))
    minutes = minute_of(words[0]) - ringing.now()
    if minutes > 0:
        ringing.go(minutes)
    if words[1] == LAST_WORD:
        return True
    do_row(ringing, number, words)
    return False


def read_book(text):
    """The RINGING of a BOOK; BadRow of the first row that can't stand."""
    rows = rows_of(text)
    tree, away, last = read_plan_rows(rows, 0)
    ringing = Ringing(tree, away)
    ended = False
    for number, row in enumerate(rows[last:], start=last + 1):
        if ended:
            raise BadRow(number, 0)
        ended = read_deed(ringing, number, row)
    if not ended:
        raise BadRow(len(rows) + 1, 0)
    return ringing
