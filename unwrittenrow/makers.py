"""PAPERS made, of rows of any length."""

from unwrittenrow.choices import shown_within
from unwrittenrow.opening import Opening, steps_along
from unwrittenrow.papers import shares_in
from unwrittenrow.tables import made_tables


def paper_of(model, n, facts, coins, ask, bits, most):
    """Return a PAPER of an ASK."""
    tables = made_tables(model, facts, [(0, n)], bits)
    return (tables, shown_by(model, n, facts, coins, ask, tables, most)[1])


def answered(model, n, facts, coins, ask, bits, most):
    """Return the answer to an ASK that belongs to its PAPER."""
    tables = made_tables(model, facts, [(0, n)], bits)
    return shown_by(model, n, facts, coins, ask, tables, most)[0]


def shown_by(model, n, facts, coins, ask, tables, most):
    """Return the tuple of the answer to an ASK, and of the STEPS that show it by TABLES."""
    opening = Opening(model[0], n, facts, ask)
    steps = steps_along(
        opening,
        lambda name, stand: shares_in(model, facts, tables, name, stand),
        lambda numbers, name: shown_within(numbers, coins, name, most),
    )
    return (opening.answer(), tuple(steps))
