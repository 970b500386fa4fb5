"""PAPERS: TABLES, and STEPS that show by them what is MADE. What they say, by themselves."""

from unwrittenrow.enclosures import exact_one, product_of
from unwrittenrow.forms import MOST_STATES, is_member, is_tuple, is_within
from unwrittenrow.opening import Opening
from unwrittenrow.things import things_at


def answer_by(measure, n, facts, ask, things):
    """Return the tuple of the answer that an ASK has if just these THINGS are MADE, or `None`."""
    opening = Opening(measure, n, facts, ask)
    for name, thing in things:
        if name != opening.name or not _has_form(measure, opening, thing):
            return None
        opening.take(thing)
    return (opening.answer(),) if opening.name is None else None


def _has_form(measure, opening, thing):
    """Tell whether any value has the form of a THING of the NAME that is OPENED."""
    name, stand = opening.name, opening.stand
    if name == ():
        return is_tuple(thing, 3, 3) and _are_states(thing[:2]) and is_member(measure, thing[2])
    if name[1] - name[0] == 1:
        return (thing, stand[2]) in measure[1]
    if not (is_tuple(thing, 3, 3) and _are_states(thing[:1])):
        return False
    _, x, y = thing
    return is_member(measure, x) and is_member(measure, y) and measure[0][x][y] == stand[2]


def _are_states(things):
    """Tell whether all of some values may be STATES of a MODEL."""
    return all([is_within(thing, 0, MOST_STATES - 1) for thing in things])


def shares_in(model, facts, tables, name, stand):
    """Return the list of the tuples (THING, ENCLOSURE) of the CHOICE of a NAME by TABLES."""
    things = things_at(model, facts, tables, name, stand)
    return [(thing, _enclosed_product(whole, parts)) for thing, whole, parts in things]


def _enclosed_product(whole, parts):
    """Return the product of an integer and ENCLOSURES."""
    enclosure = exact_one(whole)
    for part in parts:
        enclosure = product_of(enclosure, part)
    return enclosure
