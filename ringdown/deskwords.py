"""How a desk writes its answers."""

from ringdown.treetext import bell_or_name
from ringdown.words import hours_text

NONE_WORD = "none"
DONE_WORD = "done"
REFUSED_WORD = "refused"
NO_LINE = "no line"


def thing_said(kind, thing):
    """A thing of an answer as a word: a minute, a name, a truth, or else a number."""
    if thing is None:
        return NONE_WORD
    if kind == "minute":
        return hours_text(thing)
    if kind == "name":
        return bell_or_name(thing)
    if kind == "truth":
        return "yes" if thing else "no"
    return str(thing)


def row_said(kinds, row):
    """A row of things of these kinds."""
    return " ".join([thing_said(kind, thing) for kind, thing in zip(kinds, row)])


def rows_said(kinds, rows):
    """Rows of things of these kinds."""
    return ", ".join([row_said(kinds, row) for row in rows]) if len(rows) > 0 else NONE_WORD


def names_said(names):
    """Several names."""
    return rows_said(("name",), [(name,) for name in names])


def text_said(text):
    """A text, in one row."""
    return text.replace("\n", " ; ")


def text_heard(text):
    """The text that was said in one row."""
    return text.replace(" ; ", "\n")


def refused(words):
    """The answer to what is refused: by its class, and what belongs to it."""
    return " ".join([REFUSED_WORD] + words)
