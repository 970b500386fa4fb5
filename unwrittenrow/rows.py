"""The ROW that COINS name, opened where an ASK asks for it, by exact V."""

from unwrittenrow.blocks import halves_of
from unwrittenrow.choices import chosen
from unwrittenrow.opening import Opening, steps_along
from unwrittenrow.things import things_at
from unwrittenrow.weights import shares_of_ends, weights_of, weights_within


def first_things(model, n, facts):
    """Return the list of the tuples (THING, SHARE) of the CHOICE of ()."""
    return list(shares_of_ends(model, weights_of(model, facts, (0, n))).items())


def things_of(model, facts, block, stand):
    """Return the list of the tuples (THING, SHARE) of the CHOICE of a BLOCK with a STAND."""
    halves = halves_of(facts, block) if block[1] - block[0] > 1 else ()
    return shares_at(model, facts, weights_within(model, facts, halves), block, stand)


def shares_at(model, facts, weights, name, stand):
    """Return the list of the tuples (THING, SHARE) of the CHOICE of a NAME."""
    things = things_at(model, facts, weights, name, stand)
    return [(thing, _times_all(whole, parts)) for thing, whole, parts in things]


def _times_all(whole, parts):
    for part in parts:
        whole = whole * part
    return whole


def answer_of(model, n, facts, coins, ask, most):
    """Return the answer that the ROW gives to an ASK."""
    return _opened_to_the_end(model, n, facts, coins, ask, most)[0].answer()


def opened(model, n, facts, coins, ask, most):
    """Return the list of the tuples (name, d, thing) of the NAMES that an ASK OPENS."""
    return _opened_to_the_end(model, n, facts, coins, ask, most)[1]


def _opened_to_the_end(model, n, facts, coins, ask, most):
    """Return the tuple of the Opening of an ASK, all that it OPENS being MADE, and of the list of this."""
    weights = weights_within(model, facts, [(0, n)])
    opening = Opening(model[0], n, facts, ask)
    steps = steps_along(
        opening,
        lambda name, stand: shares_at(model, facts, weights, name, stand),
        lambda shares, name: chosen(shares, coins, name, most),
    )
    return (opening, steps)


def row_of(model, n, facts, coins, most):
    """Return the ROW."""
    return answer_of(model, n, facts, coins, ("letters", 0, n), most)


def stand_of(model, n, facts, coins, block, most):
    """Return the STAND of a BLOCK of the TREE."""
    # The MEASURE of its places OPENS just the greater BLOCKS, and then takes its STAND.
    ask = ("measure", block[0], block[1])
    return _opened_to_the_end(model, n, facts, coins, ask, most)[0].taken[0]
