"""MODELS: what they give, and MODELS made of others."""

from unwrittenrow.errors import TooMany
from unwrittenrow.forms import MOST_STATES, letters_of


def measure_in(model):
    """Return the MEASURE of a MODEL."""
    return model[0]


def letters_in(model):
    """Return the string of the LETTERS of a MODEL, ascending."""
    return letters_of(model[0])


def states_of(model):
    """Return the number of the STATES of a MODEL."""
    return len(model[1])


def prices_of(model, word):
    """Return the dict from (p, q) to the PRICES of all WALKS of a WORD from p to q, together."""
    arcs = _arcs_of_letters(model)
    prices = {}
    for p in range(states_of(model)):
        sums = _led([1 if q == p else 0 for q in range(states_of(model))], arcs, word)
        for q, price in enumerate(sums):
            if price > 0:
                prices[(p, q)] = price
    return prices


def weight_of(model, word):
    """Return the WEIGHT of a WORD."""
    return _ended(model, _led(list(model[1]), _arcs_of_letters(model), word))


def total_of(model, n):
    """Return Z(n)."""
    arcs = [(p, q, w) for p, _, q, w in model[3]]
    sums = list(model[1])
    for _ in range(n):
        sums = _moved(sums, arcs)
    return _ended(model, sums)


def words_of(model, n):
    """Return the dict from all WORDS with n LETTERS whose WEIGHT is above 0 to it."""
    arcs = _arcs_of_letters(model)
    begun = [("", list(model[1]))]
    for _ in range(n):
        longer = [
            (word + letter, _moved(sums, arcs[letter]))
            for word, sums in begun for letter in letters_in(model)
        ]
        # What leads nowhere is left out, as there may be too many words otherwise.
        begun = [(word, sums) for word, sums in longer if max(sums) > 0]
    weights = [(word, _ended(model, sums)) for word, sums in begun]
    return {word: weight for word, weight in weights if weight > 0}


def _arcs_of_letters(model):
    """Return the dict from each LETTER to the list of its arcs, (p, q, w)."""
    arcs = {letter: [] for letter in letters_in(model)}
    for p, letter, q, w in model[3]:
        arcs[letter].append((p, q, w))
    return arcs


def _led(sums, arcs, word):
    """Return what sums for each STATE become along a WORD."""
    for letter in word:
        sums = _moved(sums, arcs[letter])
    return sums


def _moved(sums, arcs):
    """Return what sums for each STATE become along arcs (p, q, w)."""
    led = [0 for _ in sums]
    for p, q, w in arcs:
        led[q] += sums[p] * w
    return led


def _ended(model, sums):
    """Return the sum of sums for each STATE, each times its ends."""
    return sum([many * end for many, end in zip(sums, model[2])])


def with_measure(model, measure):
    """Return the MODEL with another MEASURE."""
    return (measure, model[1], model[2], model[3])


def turned_back(model):
    """Return the MODEL of the WORDS read from the last LETTER to the first."""
    (table, values), begins, ends, arcs = model
    turned = tuple([tuple([row[x] for row in table]) for x in range(len(table))])
    back = tuple(sorted([(q, letter, p, w) for p, letter, q, w in arcs]))
    return ((turned, values), ends, begins, back)


def called(model, names):
    """Return the MODEL whose LETTERS are called by names."""
    (table, values), begins, ends, arcs = model
    name_of = dict(names)
    renamed = tuple(sorted({(name_of[letter], member) for letter, member in values}))
    named = [(p, name_of[letter], q, w) for p, letter, q, w in arcs]
    return ((table, renamed), begins, ends, _added_arcs(named))


def _added_arcs(arcs):
    """Return arcs ascending, w of those with the same p, LETTER and q being added."""
    sums = {}
    for p, letter, q, w in arcs:
        sums[(p, letter, q)] = sums.get((p, letter, q), 0) + w
    return tuple([(p, letter, q, sums[(p, letter, q)]) for p, letter, q in sorted(sums)])


def mixed(one, other, a, b):
    """Return the MODEL that gives a times the WEIGHT by one and b times that by other."""
    _ask_for_room(one, other)
    begins = tuple([a * begin for begin in one[1]] + [b * begin for begin in other[1]])
    arcs = one[3] + _arcs_behind(one, other)
    return (one[0], begins, one[2] + other[2], arcs)


def behind(one, other):
    """Return the MODEL of the WORDS of one with those of other behind them."""
    _ask_for_room(one, other)
    empty = weight_of(one, "")
    begins = one[1] + tuple([empty * begin for begin in other[1]])
    ends = tuple([0 for _ in one[2]]) + other[2]
    across = [
        (p, letter, states_of(one) + r, w * one[2][q] * begin)
        for p, letter, q, w in one[3] if one[2][q] > 0
        for r, begin in enumerate(other[1]) if begin > 0
    ]
    arcs = _added_arcs(list(one[3] + _arcs_behind(one, other)) + across)
    return (one[0], begins, ends, arcs)


def _ask_for_room(one, other):
    """Raise an error if two MODELS have too many STATES for one."""
    if states_of(one) + states_of(other) > MOST_STATES:
        raise TooMany(MOST_STATES)


def _arcs_behind(one, other):
    """Return the arcs of other with its STATES behind those of one."""
    many = states_of(one)
    return tuple([(p + many, letter, q + many, w) for p, letter, q, w in other[3]])


def trimmed(model):
    """Return the MODEL with the STATES of USE alone."""
    return _kept(model, _of_use(model))


def _of_use(model):
    """Return the list of the STATES of USE, ascending."""
    _, begins, ends, arcs = model
    onward = _reached(begins, [(p, q) for p, _, q, _ in arcs])
    back = _reached(ends, [(q, p) for p, _, q, _ in arcs])
    return [p for p in range(len(begins)) if onward[p] and back[p]]


def _reached(firsts, steps):
    """Return for each STATE whether steps lead to it from one that is not 0 in firsts."""
    there = [first > 0 for first in firsts]
    found = [p for p, is_there in enumerate(there) if is_there]
    while found:
        p = found.pop()
        for start, q in steps:
            if start == p and not there[q]:
                there[q] = True
                found.append(q)
    return there


def _kept(model, states):
    """Return the MODEL with just some of the STATES, or with one that does nothing."""
    measure, begins, ends, arcs = model
    if not states:
        return (measure, (0,), (0,), ())
    numbers = {p: at for at, p in enumerate(states)}
    return (
        measure,
        tuple([begins[p] for p in states]),
        tuple([ends[p] for p in states]),
        tuple([
            (numbers[p], letter, numbers[q], w)
            for p, letter, q, w in arcs if p in numbers and q in numbers
        ]),
    )


def kept_to(model, wish):
    """Return the MODEL that gives its WEIGHT to the WORDS alone that a WISH takes."""
    measure, begins, ends, arcs = model
    rows, taken = [dict(row) for row in wish[0]], wish[1]
    many = len(rows)
    spots = range(many)
    # The STATE (p, spot) is numbered p * many + spot, so the order stays.
    wide = (
        measure,
        tuple([begin if spot == 0 else 0 for begin in begins for spot in spots]),
        tuple([end if spot in taken else 0 for end in ends for spot in spots]),
        tuple(sorted([
            (p * many + spot, letter, q * many + rows[spot][letter], w)
            for p, letter, q, w in arcs for spot in spots
        ])),
    )
    states = _of_use(wide)
    if len(states) > MOST_STATES:
        raise TooMany(MOST_STATES)
    return _kept(wide, states)
