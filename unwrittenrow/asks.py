"""ASKS: what may be asked of a ROW, and what it means for a WORD that is written down."""

from unwrittenrow.forms import is_lot, is_member, is_tuple, is_within, is_word_of
from unwrittenrow.measures import is_left_ideal, is_right_ideal, measure_of

MOST_PLACES_READ = 200


def is_ask(measure, n, thing):
    """Tell whether any value is an ASK."""
    if not (is_tuple(thing, 2, 4) and isinstance(thing[0], str)):
        return False
    if thing[0] == "letter":
        return len(thing) == 2 and is_within(thing[1], 0, n - 1)
    return _has_stretch(n, thing) and _is_of_kind(measure, thing)


def _has_stretch(n, thing):
    """Tell whether the second and the third item of a tuple are those of a STRETCH."""
    return len(thing) > 2 and is_within(thing[2], 0, n) and is_within(thing[1], 0, thing[2])


def _is_of_kind(measure, thing):
    """Tell whether a tuple with a STRETCH has what belongs to its first item."""
    kind = thing[0]
    if kind in ("letters", "measure"):
        return len(thing) == 3 and (kind == "measure" or thing[2] - thing[1] <= MOST_PLACES_READ)
    if len(thing) != 4 or not is_lot(measure, thing[3]):
        return False
    if kind == "first":
        return is_right_ideal(measure, thing[3])
    return kind == "last" and is_left_ideal(measure, thing[3])


def stretch_of(ask):
    """Return the STRETCH of an ASK: its first place, and the one behind its last place."""
    if ask[0] == "letter":
        return (ask[1], ask[1] + 1)
    return (ask[1], ask[2])


def lot_sought(ask):
    """Return the LOT of an ASK for a place, () of any other one."""
    return ask[3] if len(ask) == 4 else ()


def plain_answer(measure, word, ask):
    """Return what an ASK means for a WORD."""
    i, j = stretch_of(ask)
    if ask[0] in ("letter", "letters"):
        return word[i:j]
    if ask[0] == "measure":
        return measure_of(measure, word[i:j])
    return _place_sought(measure, word, ask)


def _place_sought(measure, word, ask):
    """Return the first, or the last, place that an ASK seeks, `None` if there is none."""
    kind, i, j, lot = ask
    table, members = measure[0], dict(measure[1])
    places = list(range(i, j))
    if kind == "last":
        places = places[::-1]
    met = 0
    for x in places:
        member = members[word[x]]
        met = table[met][member] if kind == "first" else table[member][met]
        if met in lot:
            return x
    return None


def is_answer(measure, ask, thing):
    """Tell whether any value has the form of an answer to an ASK."""
    i, j = stretch_of(ask)
    if ask[0] in ("letter", "letters"):
        return is_word_of(measure, thing) and len(thing) == j - i
    if ask[0] == "measure":
        return is_member(measure, thing)
    return thing is None or is_within(thing, i, j - 1)
