"""The judge of PAPERS, whoever made them. It reckons with the numbers of their TABLES alone."""

from unwrittenrow.blocks import halves_of, key_of
from unwrittenrow.choices import is_shown
from unwrittenrow.coins import beginning
from unwrittenrow.forms import is_name, is_same_value, is_tuple, is_within
from unwrittenrow.opening import Opening
from unwrittenrow.papers import shares_in
from unwrittenrow.tables import are_tables

MOST_COINS = 4000


def is_paper(model, n, facts, coins, ask, answer, thing):
    """Tell whether any value is a PAPER that is TAKEN of an answer, any value too."""
    if not (is_tuple(thing, 2, 2) and isinstance(thing[1], tuple)):
        return False
    if not are_tables(model, facts, thing[0]):
        return False
    opening = Opening(model[0], n, facts, ask)
    if _first_wrong(model, coins, opening, thing) is not None:
        return False
    return is_same_value(opening.answer(), answer)


def first_amiss(model, n, facts, coins, ask, thing):
    """Return the index of the first STEP that is not right, `None` if none is and none is missing."""
    return _first_wrong(model, coins, Opening(model[0], n, facts, ask), thing)


def _first_wrong(model, coins, opening, thing):
    """Lead an Opening along the STEPS of a PAPER, and return what `first_amiss` does."""
    tables, steps = thing
    for at, step in enumerate(steps):
        if not _is_right_step(model, coins, opening, tables, step):
            return at
        opening.take(step[2])
    return None if opening.name is None else len(steps)


def _is_right_step(model, coins, opening, tables, step):
    """Tell whether any value is a STEP of the NAME that is OPENED, and shows what is MADE."""
    if not (is_tuple(step, 3, 3) and is_name(step[0]) and step[0] == opening.name):
        return False
    name, d, thing = step
    if not (is_within(d, 0, MOST_COINS) and _has_keys(opening, tables)):
        return False
    shares = shares_in(model, opening.conditions, tables, name, opening.stand)
    places = [at for at, share in enumerate(shares) if is_same_value(share[0], thing)]
    if not places:
        return False
    numbers = [number for _, number in shares]
    return is_shown(numbers, places[0], beginning(coins, name, d), d)


def _has_keys(opening, tables):
    """Tell whether TABLES have the KEYS that the NAME that is OPENED needs."""
    name, facts = opening.name, opening.conditions
    if name == ():
        return key_of(facts, (0, opening.stand)) in tables
    if name[1] - name[0] == 1:
        return True
    return all([key_of(facts, half) in tables for half in halves_of(facts, name)])
