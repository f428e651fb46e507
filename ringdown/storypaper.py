"""PAPERs that show that no STORY of a CASE is cheaper, written and looked through."""

from ringdown.errors import BadPaper
from ringdown.leasttables import least_tables, makes, sum_of
from ringdown.stories import case_parts, cost_of_story, least_of, need_story
from ringdown.words import is_whole


def tables_told(parts, tables):
    """Numbers by names, then by STATES, as TABLES tell them."""
    return tuple([tuple([tables[name][state] for state in parts.states]) for name in parts.there])


def is_row_of_numbers(thing, many):
    """Whether thing is a tuple of so many whole numbers or Nones."""
    if not isinstance(thing, tuple) or len(thing) != many:
        return False
    return all([number is None or is_whole(number) for number in thing])


def are_tables(parts, thing):
    """Whether thing is made like TABLES of a CASE."""
    if not isinstance(thing, tuple) or len(thing) != len(parts.there):
        return False
    return all([is_row_of_numbers(row, len(parts.states)) for row in thing])


def tables_by_names(parts, rows):
    """The numbers of TABLES by names, then by STATES."""
    return {name: dict(zip(parts.states, row)) for name, row in zip(parts.there, rows)}


def is_no_greater(number, other):
    """Whether a number is no greater than the other one, None being greater than each."""
    if other is None:
        return True
    return number is not None and number <= other


def is_held(parts, tables, name, state, tied):
    """Whether a number of TABLES is no greater than what its name MAKES, where HEARD lets it have that STATE."""
    if parts.heard.get(name, state) != state:
        return True
    return is_no_greater(tables[name][state], makes(parts, tables, name, state, tied))


def hold(parts, tables, tied):
    """Whether TABLES HOLD."""
    return all([is_held(parts, tables, name, state, tied) for name in parts.there for state in parts.states])


def cost_told(parts, story):
    """What a STORY costs; None of what is none."""
    try:
        need_story(parts, story)
    except BadPaper:
        return None
    return cost_of_story(parts, story)


def paper_read(parts, paper, tied):
    """What the STORY of a PAPER costs and the SUM of its TABLES, which HOLD; None of what is no such PAPER."""
    if not isinstance(paper, tuple) or len(paper) != 2:
        return None
    story, rows = paper
    cost = cost_told(parts, story)
    if cost is None or not are_tables(parts, rows):
        return None
    tables = tables_by_names(parts, rows)
    return (cost, sum_of(parts, tables, tied)) if hold(parts, tables, tied) else None


def story_paper(case):
    """A PAPER of a CASE: a STORY, and that none is cheaper."""
    parts = case_parts(case)
    return (least_of(parts), tables_told(parts, least_tables(parts, parts.heard)))


def check_story(case, paper):
    """Whether something is a PAPER of a CASE."""
    told = paper_read(case_parts(case), paper, ())
    return told is not None and told[0] == told[1]
