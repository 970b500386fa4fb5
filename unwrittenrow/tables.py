"""TABLES: ENCLOSURES of V for the KEYS of BLOCKS, made, and looked at whoever made them."""

from unwrittenrow.blocks import facts_in, key_of, keys_of_halves, keys_within, lot_of_key, places_of
from unwrittenrow.enclosures import compared, exact_one, product_of, sum_of
from unwrittenrow.forms import is_across, is_block, is_enclosure, is_integer, is_member, is_tuple, is_within
from unwrittenrow.models import states_of
from unwrittenrow.weights import pairs_met, prices_of_place


def keys_needed(facts, blocks):
    """Return the list of the KEYS of BLOCKS and of all BLOCKS of the TREE that lie in them."""
    keys = keys_within(facts, blocks)
    numbers = sorted([key for key in keys if is_integer(key)])
    return numbers + sorted([key for key in keys if not is_integer(key)])


def made_tables(model, facts, blocks, bits):
    """Return the TABLES of BLOCKS and of all that lie in them, each ENCLOSURE with so many bits."""
    return tables_beside(model, facts, blocks, bits, {})


def tables_beside(model, facts, blocks, bits, known):
    """Return the TABLES that `made_tables` does; those of some KEYS, known already, are not made anew."""
    made = {}
    for key in keys_within(facts, blocks):
        if key in known:
            made[key] = known[key]
        else:
            parts = _parts_at(model, facts, key, made)
            made[key] = {stand: sum_of(parts[stand], bits) for stand in sorted(parts)}
    return {key: made[key] for key in keys_needed(facts, blocks)}


def _parts_at(model, facts, key, tables):
    """Return the dict from the STANDS of a KEY to the lists of their PARTS, by the TABLES of its HALVES."""
    if places_of(key) == 1:
        prices = prices_of_place(model)
        parts = {stand: [exact_one(prices[stand])] for stand in prices}
    else:
        first, second = keys_of_halves(facts, key)
        met = pairs_met(model[0][0], tables[first], tables[second])
        parts = {stand: [product_of(one, other) for one, other in met[stand]] for stand in met}
    lot = lot_of_key(facts, key)
    return {stand: parts[stand] for stand in parts if lot is None or stand[2] in lot}


def are_tables(model, facts, thing):
    """Tell whether any value is TABLES that enclose what they have to."""
    if not isinstance(thing, dict):
        return False
    if not all([_is_key(facts, key) and _is_table(model, thing[key]) for key in thing]):
        return False
    for key in thing:
        if places_of(key) > 1 and not all([half in thing for half in keys_of_halves(facts, key)]):
            return False
    # Only now are all that is reckoned with known to be there.
    return all([_is_wide_enough(thing[key], _parts_at(model, facts, key, thing)) for key in thing])


def _is_key(facts, thing):
    """Tell whether any value may be a KEY of TABLES."""
    if is_integer(thing):
        return thing > 0
    if not (is_block(thing) and facts_in(facts, thing)):
        return False
    return not any([is_across(thing, fact) for fact in facts])


def _is_table(model, thing):
    """Tell whether any value is a dict from STANDS to ENCLOSURES."""
    if not isinstance(thing, dict):
        return False
    return all([_is_stand(model, stand) and is_enclosure(thing[stand]) for stand in thing])


def _is_stand(model, thing):
    """Tell whether any value is a tuple of two STATES and a MEMBER."""
    if not is_tuple(thing, 3, 3):
        return False
    last = states_of(model) - 1
    return is_within(thing[0], 0, last) and is_within(thing[1], 0, last) and is_member(model[0], thing[2])


def _is_wide_enough(table, parts):
    """Tell whether a table has just the STANDS that have PARTS, and encloses their sums."""
    if len(table) != len(parts) or not all([stand in table for stand in parts]):
        return False
    return all([_encloses(table[stand], parts[stand]) for stand in parts])


def _encloses(enclosure, parts):
    """Tell whether an ENCLOSURE reaches from the lows of PARTS, together, to their highs."""
    low, high, e = enclosure
    if compared([(low, e)], [(part[0], part[2]) for part in parts]) > 0:
        return False
    return compared([(high, e)], [(part[1], part[2]) for part in parts]) >= 0


def enclosed(tables, facts, block):
    """Return the dict from the STANDS of the KEY of a BLOCK to their ENCLOSURES."""
    table = tables[key_of(facts, block)]
    return {stand: table[stand] for stand in sorted(table)}
