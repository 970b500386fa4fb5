"""Exact V of BLOCKS of at most some thousand places."""

from unwrittenrow.blocks import key_of, keys_of_halves, keys_within, lot_of_key, places_of
from unwrittenrow.models import states_of


def weights_of(model, facts, block):
    """Return V of a BLOCK, the dict from the STANDS for which it is above 0."""
    return weights_within(model, facts, [block])[key_of(facts, block)]


def weights_within(model, facts, blocks):
    """Return the dict from the KEYS of BLOCKS, and of all BLOCKS in them, to V."""
    found = {}
    for key in keys_within(facts, blocks):
        weights = _weights_of_key(model, facts, key, found)
        lot = lot_of_key(facts, key)
        found[key] = {stand: weights[stand] for stand in sorted(weights) if lot is None or stand[2] in lot}
    return found


def _weights_of_key(model, facts, key, found):
    """Return V of a KEY, the FACT of just its BLOCK left out, those of fewer places being found."""
    if places_of(key) == 0:
        return {(p, p, 0): 1 for p in range(states_of(model))}
    if places_of(key) == 1:
        return prices_of_place(model)
    first, second = keys_of_halves(facts, key)
    met = pairs_met(model[0][0], found[first], found[second])
    return {stand: sum([one * other for one, other in met[stand]]) for stand in met}


def prices_of_place(model):
    """Return the dict from the STANDS of one place to the sum of w over their LETTERS."""
    members = dict(model[0][1])
    prices = {}
    for p, letter, q, w in model[3]:
        stand = (p, q, members[letter])
        prices[stand] = prices.get(stand, 0) + w
    return prices


def pairs_met(table, first, second):
    """Return the dict from each STAND of a BLOCK to the list of the pairs of which it comes.

    first and second are dicts from the STANDS of its HALVES to what is told of them.
    """
    behind = {}
    for (r, q, y), other in second.items():
        behind.setdefault(r, []).append((q, y, other))
    met = {}
    for (p, r, x), one in first.items():
        for q, y, other in behind.get(r, []):
            met.setdefault((p, q, table[x][y]), []).append((one, other))
    return met


def total_under(model, n, facts):
    """Return Z(n, FACTS)."""
    return sum(shares_of_ends(model, weights_of(model, facts, (0, n))).values())


def shares_of_ends(model, weights):
    """Return the dict from the STANDS of (0, n) that can come to begins * V * ends."""
    _, begins, ends, _ = model
    shares = {}
    for p, q, m in sorted(weights):
        share = begins[p] * weights[(p, q, m)] * ends[q]
        if share > 0:
            shares[(p, q, m)] = share
    return shares
