"""COURSES, rows without an end, and which lengths and MEASURES the WORDS of a MODEL have."""

from unwrittenrow.forms import is_same_value


def lengths_of(model):
    """Return the LEAST COURSE of the truths whether Z(n) is above 0."""
    firsts, turns = lots_of(model)
    return least_course((tuple([lot != () for lot in firsts]), tuple([lot != () for lot in turns])))


def has_length(model, n):
    """Tell whether Z(n) is above 0."""
    return item_at(lengths_of(model), n)


def lots_of(model):
    """Return the LEAST COURSE of the LOTS of the MEASURES of all WORDS with n LETTERS."""
    after = _ends_after(model)
    met = {}
    ends = tuple([(p, 0) for p, begin in enumerate(model[1]) if begin > 0])
    while ends not in met:
        met[ends] = len(met)
        ends = tuple(sorted({other for one in ends for other in after[one]}))
    lots = tuple([_lot_of_ends(model, one) for one in met])
    return least_course((lots[:met[ends]], lots[met[ends]:]))


def lot_of_length(model, n):
    """Return the LOT of the MEASURES of all WORDS with n LETTERS whose WEIGHT is above 0."""
    return item_at(lots_of(model), n)


def _ends_after(model):
    """Return the dict from each (STATE, MEMBER) at the end of a WALK to those one LETTER later."""
    (table, values), begins, _, arcs = model
    members = dict(values)
    after = {(p, x): [] for p in range(len(begins)) for x in range(len(table))}
    for p, letter, q, _ in arcs:
        for x, row in enumerate(table):
            after[(p, x)].append((q, row[members[letter]]))
    return after


def _lot_of_ends(model, ends):
    """Return the LOT of the MEMBERS that come with a STATE where a WORD may end."""
    return tuple(sorted({x for p, x in ends if model[2][p] > 0}))


def item_at(course, n):
    """Return the item that a COURSE tells for n."""
    firsts, turns = course
    if n < len(firsts):
        return _copied(firsts[n])
    return _copied(turns[(n - len(firsts)) % len(turns)])


def least_course(course):
    """Return the LEAST COURSE that tells the same row."""
    firsts, turns = course
    turns = turns[:_least_turn(turns)]
    # As long as the last of firsts is the last of turns, both may be turned back by one.
    back = 0
    while back < len(firsts) and is_same_value(firsts[-1 - back], turns[-1 - back % len(turns)]):
        back += 1
    at = len(turns) - back % len(turns)
    return (_copied(firsts[:len(firsts) - back]), _copied(turns[at:] + turns[:at]))


def _least_turn(turns):
    """Return the least number of items that tell turns again and again."""
    many = len(turns)
    for size in range(1, many):
        if many % size == 0 and _goes_on_by(turns, size):
            return size
    return many


def _goes_on_by(turns, size):
    """Tell whether each item is the one so many places ahead of it."""
    for one, other in zip(turns, turns[size:]):
        if not is_same_value(one, other):
            return False
    return True


def _copied(thing):
    """Return a thing with each list and dict in it made anew, as the caller may change it."""
    if isinstance(thing, tuple):
        return tuple([_copied(item) for item in thing])
    if isinstance(thing, list):
        return [_copied(item) for item in thing]
    if isinstance(thing, dict):
        return {key: _copied(thing[key]) for key in thing}
    return thing


def length_from(model, n):
    """Return the least integer from n on for which Z is above 0, `None` if there is none."""
    course = lengths_of(model)
    firsts, turns = course
    for length in range(n, max(n, len(firsts)) + len(turns)):
        if item_at(course, length):
            return length
    return None
