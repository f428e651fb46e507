"""The TEXT of a plan, a TREE and who is AWAY, written and read."""

from ringdown.errors import BadRow
from ringdown.tree import DEEPEST, MOST_PEOPLE, away_or_nobody, names_of
from ringdown.treetext import need_words, read_head, read_person, rows_of, tree_text, words_in
from ringdown.words import is_among, number_of

# The number of the row of the first PERSON.
FIRST_PERSON = 3


def plan_text(tree, away=None):
    """The TEXT of a TREE and who is AWAY."""
    told_away = away_or_nobody(tree, away)
    away_row = " ".join(["away"] + list(told_away))
    return "\n".join([f"plan {len(names_of(tree))}", tree_text(tree), away_row])


def row_at(rows, number):
    """The row of that number; BadRow where it lacks."""
    if number > len(rows):
        raise BadRow(len(rows) + 1, 0)
    return rows[number - 1]


def plan_word_fits(place, word):
    """Whether a word can stand at that place, from 1, of a plan's first row."""
    if place == 1:
        return word == "plan"
    return place == 2 and is_among(number_of(word), 0, MOST_PEOPLE)


def read_count(rows):
    """How many PEOPLE there are, by a plan's first row."""
    words = words_in(1, row_at(rows, 1))
    need_words(1, [plan_word_fits(place, word) for place, word in enumerate(words, start=1)], 2)
    return number_of(words[1])


def read_people(rows, count):
    """So many PEOPLE, by their rows."""
    people = []
    for number in range(FIRST_PERSON, FIRST_PERSON + count):
        people.append(read_person(number, row_at(rows, number), people))
    return tuple(people)


def away_word_fits(words, place, names):
    """Whether the word at that place, from 1, of the row of those AWAY can stand there."""
    word = words[place - 1]
    if place == 1:
        return word == "away"
    return word in names and (place == 2 or word > words[place - 2])


def read_away(rows, number, names):
    """Who of these names is AWAY, by the row of that number."""
    words = words_in(number, row_at(rows, number))
    need_words(number, [away_word_fits(words, place, names) for place in range(1, len(words) + 1)], 1)
    return tuple(words[1:])


def read_plan_rows(rows, deepest):
    """TREE, AWAY, and how many rows ahead tell them; DEEP is deepest at the most."""
    count = read_count(rows)
    wait, deep = read_head(2, row_at(rows, 2), deepest)
    people = read_people(rows, count)
    last = FIRST_PERSON + count
    away = read_away(rows, last, [person[0] for person in people])
    return (wait, deep, people), away, last


def read_plan_text(text):
    """(TREE, AWAY) of a TEXT; BadRow of the first row that can't stand."""
    rows = rows_of(text)
    tree, away, last = read_plan_rows(rows, DEEPEST)
    if len(rows) > last:
        raise BadRow(last + 1, 0)
    return (tree, away)
