"""The text of a TREE, written and read."""

from ringdown.errors import BadRow
from ringdown.tree import DEEPEST, MOST_PEOPLE, is_talk, is_wait, need_tree
from ringdown.words import is_among, is_name, number_of, words_of

BELL_WORD = "-"


def bell_or_name(name):
    """The word for a NAME, or for the BELL."""
    return BELL_WORD if name == "" else name


def tree_text(tree):
    """The text of a TREE."""
    need_tree(tree)
    wait, deep, people = tree
    rows = [f"tree {wait} {deep}"]
    for name, caller, talk in people:
        rows.append(f"{name} {bell_or_name(caller)} {talk}")
    return "\n".join(rows)


def words_in(number, row):
    """The words of the row of that number; BadRow by word 0 of one with blanks amiss."""
    words = words_of(row)
    if words is None:
        raise BadRow(number, 0)
    return words


def need_words(number, fits, many):
    """Nothing where many words fit; fits tells of each word of a row whether it can stand there."""
    for place, fit in enumerate(fits, start=1):
        if not fit:
            raise BadRow(number, place)
    if len(fits) < many:
        raise BadRow(number, len(fits) + 1)


def head_word_fits(place, word, deepest):
    """Whether a word can stand at that place, from 1, of a TREE's first row, where DEEP is deepest at the most."""
    if place == 1:
        return word == "tree"
    if place == 2:
        return is_wait(number_of(word))
    return place == 3 and is_among(number_of(word), 0, deepest)


def person_word_fits(place, word, ahead):
    """Whether a word can stand at that place, from 1, of a PERSON's row behind those whose names are ahead."""
    if place == 1:
        return is_name(word) and word not in ahead
    if place == 2:
        return word == BELL_WORD or word in ahead
    return place == 3 and is_talk(number_of(word))


def read_head(number, row, deepest):
    """WAIT and DEEP, deepest at the most, of a TREE's first row, which has that number."""
    words = words_in(number, row)
    need_words(number, [head_word_fits(place, word, deepest) for place, word in enumerate(words, start=1)], 3)
    return number_of(words[1]), number_of(words[2])


def read_person(number, row, people):
    """The PERSON of the row of that number, behind the people ahead."""
    if len(people) == MOST_PEOPLE:
        raise BadRow(number, 0)
    words = words_in(number, row)
    ahead = [person[0] for person in people]
    need_words(number, [person_word_fits(place, word, ahead) for place, word in enumerate(words, start=1)], 3)
    name, caller_word, talk_word = words
    caller = "" if caller_word == BELL_WORD else caller_word
    return (name, caller, number_of(talk_word))


def rows_of(text):
    """The rows of a text; BadRow of what is none."""
    if not isinstance(text, str):
        raise BadRow(0, 0)
    return text.split("\n")


def read_tree(text):
    """The TREE of a text; BadRow of the first row that can't stand."""
    rows = rows_of(text)
    wait, deep = read_head(1, rows[0], DEEPEST)
    people = []
    for number, row in enumerate(rows[1:], start=2):
        people.append(read_person(number, row, people))
    return (wait, deep, tuple(people))
