"""MEASURES and their LOTS."""

from unwrittenrow.errors import TooMany
from unwrittenrow.forms import MOST_MEMBERS, letters_of


def product(measure, x, y):
    """Return x * y."""
    return measure[0][x][y]


def measure_of(measure, word):
    """Return the MEASURE OF a WORD."""
    members = dict(measure[1])
    x = 0
    for letter in word:
        x = measure[0][x][members[letter]]
    return x


def power_of(measure, x, n):
    """Return the product of n times x."""
    table = measure[0]
    power = 0
    while n > 0:
        if n & 1 == 1:
            power = table[power][x]
        x = table[x][x]
        n = n >> 1
    return power


def reached(measure):
    """Return the LOT of all MEMBERS that are the MEASURE OF some WORD."""
    return tuple(sorted([x for x, _ in _pairs_met(measure, measure)]))


def is_right_ideal(measure, lot):
    """Tell whether a LOT is a RIGHT IDEAL."""
    return right_closed(measure, lot) == lot


def is_left_ideal(measure, lot):
    """Tell whether a LOT is a LEFT IDEAL."""
    return left_closed(measure, lot) == lot


def right_closed(measure, lot):
    """Return the least RIGHT IDEAL with all MEMBERS of a LOT."""
    # One step is enough: x * 0 is x, and (x * y) * z is x * (y * z).
    return tuple(sorted({y for x in lot for y in measure[0][x]}))


def left_closed(measure, lot):
    """Return the least LEFT IDEAL with all MEMBERS of a LOT."""
    return tuple(sorted({row[x] for x in lot for row in measure[0]}))


def led_from(measure, x, lot):
    """Return the LOT of all y with x * y in a LOT."""
    return tuple([y for y, led in enumerate(measure[0][x]) if led in lot])


def led_to(measure, x, lot):
    """Return the LOT of all y with y * x in a LOT."""
    return tuple([y for y, row in enumerate(measure[0]) if row[x] in lot])


def beside(one, other):
    """Return the MEASURE of the pairs of two MEASURES of the same LETTERS, and these pairs."""
    pairs = _pairs_met(one, other)
    if len(pairs) > MOST_MEMBERS:
        raise TooMany(MOST_MEMBERS)
    table = tuple([
        tuple([pairs.index((one[0][x][a], other[0][y][b])) for a, b in pairs]) for x, y in pairs
    ])
    values = tuple([
        (letter, pairs.index((a, b))) for (letter, a), (_, b) in zip(one[1], other[1])
    ])
    return ((table, values), tuple(pairs))


def _pairs_met(one, other):
    """Return the list of the pairs of the MEASURES OF all WORDS, in the order of `beside`."""
    pairs = [(0, 0)]
    at = 0
    while at < len(pairs):
        x, y = pairs[at]
        for (_, a), (_, b) in zip(one[1], other[1]):
            pair = (one[0][x][a], other[0][y][b])
            if pair not in pairs:
                pairs.append(pair)
        at += 1
    return pairs


def is_same(one, other):
    """Tell whether two MEASURES are of the same LETTERS and part the same WORDS."""
    if letters_of(one) != letters_of(other):
        return False
    pairs = _pairs_met(one, other)
    return len({x for x, _ in pairs}) == len(pairs) == len({y for _, y in pairs})
