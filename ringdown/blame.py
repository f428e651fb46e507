"""Who may have heard what, and who is to BLAME for it."""

from ringdown.caseparts import make_dearer, states_left
from ringdown.errors import NoName
from ringdown.leasttables import alone_least, least, least_tables, makes, price_of, together
from ringdown.stories import case_parts, least_of, need_there_or_bell, with_state
from ringdown.storypaper import paper_read, tables_told

# More than can be to BLAME: so many times a cost, and how many are to blame, are told by one number.
BLAME_BASE = 100


def need_there(parts, name):
    """Nothing of one who is there, else NoName."""
    if not isinstance(name, str) or name not in parts.there:
        raise NoName(name)


def is_more(number, other):
    """Whether a number is more than the other one, None being more than each."""
    return number is None or number > other


def costs_more(parts, price, name, state):
    """Whether the STORIES in which one has that STATE cost more, or there is none."""
    if state not in states_left(parts, parts.heard, name):
        return True
    return is_more(price_of(parts, with_state(parts.heard, name, state)), price)


def may_have_heard(case, name):
    """The STATES that one who is there has in CHEAPEST STORIES, rising."""
    parts = case_parts(case)
    need_there(parts, name)
    price = price_of(parts, parts.heard)
    return tuple([state for state in parts.states if not costs_more(parts, price, name, state)])


def is_fault(parts, price, name):
    """Whether one has in each CHEAPEST STORY another STATE than it should have."""
    if name in parts.carriers:
        return is_more(price_of(parts, parts.heard, (name,)), price)
    return costs_more(parts, price, name, ())


def sure_faults(case):
    """The FAULTs, rising."""
    parts = case_parts(case)
    price = price_of(parts, parts.heard)
    return tuple([name for name in parts.there if is_fault(parts, price, name)])


def price_spared(parts, name):
    """What the cheapest STORY costs in which one isn't to BLAME, or None: all of its ROW have the STATE that it has."""
    return price_of(parts, parts.heard, parts.rows[name])


def is_to_blame(parts, name):
    """Whether one MUST be to BLAME."""
    return is_more(price_spared(parts, name), price_of(parts, parts.heard))


def spared_price(case, name=""):
    """What it costs that one is SPARED, or None."""
    parts = case_parts(case)
    need_there_or_bell(parts, name)
    return price_spared(parts, name)


def must_have(case, name=""):
    """Whether one MUST be to BLAME."""
    parts = case_parts(case)
    need_there_or_bell(parts, name)
    return is_to_blame(parts, name)


def makes_with_blame(parts, tables, name, state):
    """What one by a STATE MAKES, and one more where it is to BLAME."""
    spared = makes(parts, tables, name, state, parts.rows[name])
    return least([spared, together([makes(parts, tables, name, state), 1])])


def table_with_blame(parts, tables, name):
    """What one MAKES by each STATE, with one more by each of those who are to BLAME; None where HEARD tells another."""
    left = states_left(parts, parts.heard, name)
    return {state: makes_with_blame(parts, tables, name, state) if state in left else None for state in parts.states}


def fewest_to_blame(case):
    """How many are to BLAME in the CHEAPEST STORY in which they are FEWEST."""
    parts = case_parts(case)
    make_dearer(parts, BLAME_BASE)
    tables = {}
    for name in parts.uncarried + parts.carried[::-1]:
        tables[name] = table_with_blame(parts, tables, name)
    alone = [alone_least(parts, tables[name]) for name in parts.uncarried]
    return together([makes_with_blame(parts, tables, "", parts.heard[""])] + alone) % BLAME_BASE


def must_paper(case, name=""):
    """A PAPER that one MUST be to BLAME, None where it needn't be."""
    parts = case_parts(case)
    need_there_or_bell(parts, name)
    if not is_to_blame(parts, name):
        return None
    return (least_of(parts), tables_told(parts, least_tables(parts, parts.heard, parts.rows[name])))


def check_must(case, name, paper):
    """Whether something is a PAPER that one MUST be to BLAME."""
    parts = case_parts(case)
    need_there_or_bell(parts, name)
    told = paper_read(parts, paper, parts.rows[name])
    return told is not None and is_more(told[1], told[0])
