"""WISHES, and the MEASURE by which they tell WORDS apart."""

from unwrittenrow.errors import TooMany
from unwrittenrow.forms import MOST_LETTERS, MOST_MEMBERS
from unwrittenrow.forms import are_ascending_below, is_ascending, is_letter, is_tuple, is_within

MOST_SPOTS = 6


def is_wish(thing):
    """Tell whether any value is a WISH."""
    if not (is_tuple(thing, 2, 2) and is_tuple(thing[0], 1, MOST_SPOTS)):
        return False
    steps, ends = thing
    if not all([_is_row(row, len(steps)) for row in steps]):
        return False
    if not all([_letters_in(row) == _letters_in(steps[0]) for row in steps]):
        return False
    return are_ascending_below(ends, len(steps))


def _is_row(thing, spots):
    """Tell whether any value is what steps have for one of so many SPOTS."""
    if not is_tuple(thing, 1, MOST_LETTERS):
        return False
    if not all([_is_step(item, spots) for item in thing]):
        return False
    return is_ascending(_letters_in(thing))


def _is_step(thing, spots):
    return is_tuple(thing, 2, 2) and is_letter(thing[0]) and is_within(thing[1], 0, spots - 1)


def _letters_in(row):
    return [letter for letter, _ in row]


def takes(wish, word):
    """Tell whether a WISH takes a WORD of its LETTERS."""
    steps, ends = wish
    rows = [dict(row) for row in steps]
    spot = 0
    for letter in word:
        spot = rows[spot][letter]
    return spot in ends


def measure_of_wishes(letters, wishes):
    """Return the MEASURE whose MEMBERS are the kinds of EVEN WORDS, and the LOT of each WISH.

    A kind is told by where its WORDS lead from each SPOT of each WISH. With the fewest
    SPOTS two WORDS are EVEN exactly if they lead alike.
    """
    least = [_least(_spots_after(wish), _taken_at(wish)) for wish in wishes]
    leads = [
        tuple([tuple([after[at] for after in spots]) for spots, _ in least])
        for at in range(len(letters))
    ]
    kinds = _kinds_of_words(tuple([tuple(range(len(spots))) for spots, _ in least]), leads)
    table = tuple([tuple([kinds.index(_joined(x, y)) for y in kinds]) for x in kinds])
    values = tuple([(letter, kinds.index(lead)) for letter, lead in zip(letters, leads)])
    lots = tuple([
        tuple([x for x, kind in enumerate(kinds) if taken[kind[place][0]]])
        for place, (_, taken) in enumerate(least)
    ])
    return ((table, values), lots)


def _kinds_of_words(first, leads):
    """Return the list of the kinds of all WORDS, in the order of their first WORDS."""
    kinds = [first]
    at = 0
    while at < len(kinds):
        for lead in leads:
            kind = _joined(kinds[at], lead)
            if kind not in kinds:
                kinds.append(kind)
        if len(kinds) > MOST_MEMBERS:
            raise TooMany(MOST_MEMBERS)
        at += 1
    return kinds


def _joined(kind, behind):
    """Return the kind of the WORDS of one kind with WORDS of another kind behind them."""
    return tuple([
        tuple([its[spot] for spot in mine]) for mine, its in zip(kind, behind)
    ])


def _spots_after(wish):
    """Return for each SPOT the list of the SPOTS to which the LETTERS lead from it."""
    return [[spot for _, spot in row] for row in wish[0]]


def _taken_at(wish):
    """Return for each SPOT whether it is one of the ends."""
    return [spot in wish[1] for spot in range(len(wish[0]))]


def _least(spots, taken):
    """Return the fewest spots, and their truths, that take the same WORDS.

    They are numbered in the order in which they are met from the first one on.
    """
    kinds = _kinds_of_spots(spots, taken)
    met = [0]
    numbers = {kinds[0]: 0}
    at = 0
    while at < len(met):
        for spot in spots[met[at]]:
            if kinds[spot] not in numbers:
                numbers[kinds[spot]] = len(met)
                met.append(spot)
        at += 1
    fewest = [[numbers[kinds[spot]] for spot in spots[one]] for one in met]
    return (fewest, [taken[one] for one in met])


def _kinds_of_spots(spots, taken):
    """Return for each spot a number, the same for those from which the same WORDS are taken."""
    kinds = [1 if end else 0 for end in taken]
    while True:
        marks = [
            (kind, tuple([kinds[spot] for spot in after])) for kind, after in zip(kinds, spots)
        ]
        unlike = sorted(set(marks))
        if len(unlike) == len(set(kinds)):
            return kinds
        kinds = [unlike.index(mark) for mark in marks]


def _wish(letters, spots, ends):
    """Return the WISH whose LETTERS lead, in their order, to the spots that are told."""
    return (tuple([tuple(zip(letters, after)) for after in spots]), ends)


def holding(letters, word):
    """Return the WISH that takes the WORDS in which a WORD stands somewhere."""
    spots = [_begun_after(letters, word, many) for many in range(len(word))]
    spots.append([len(word) for _ in letters])
    return _wish(letters, spots, (len(word),))


def ending(letters, word):
    """Return the WISH that takes the WORDS that end with a WORD."""
    spots = [_begun_after(letters, word, many) for many in range(len(word) + 1)]
    return _wish(letters, spots, (len(word),))


def _begun_after(letters, word, many):
    """Return, for each LETTER behind so many of a WORD, how many of it stand at the end then."""
    return [_begun(word, word[:many] + letter) for letter in letters]


def _begun(word, text):
    """Return how many LETTERS of a WORD, at most all, stand at the end of a text."""
    return max([many for many in range(len(word) + 1) if text.endswith(word[:many])])


def at_least(letters, letter, many):
    """Return the WISH that takes the WORDS with at least so many of a LETTER."""
    spots = [
        [min(spot + 1, many) if other == letter else spot for other in letters]
        for spot in range(many + 1)
    ]
    return _wish(letters, spots, (many,))


def counted(letters, letter, turns, lot):
    """Return the WISH that takes the WORDS whose number of a LETTER, modulo turns, is in lot."""
    spots = [
        [(spot + 1) % turns if other == letter else spot for other in letters]
        for spot in range(turns)
    ]
    return _wish(letters, spots, lot)


def both(one, other):
    """Return the WISH with the fewest SPOTS that takes the WORDS that two WISHES take."""
    many = len(other[0])
    spots = [
        [x * many + y for x, y in zip(mine, its)]
        for mine in _spots_after(one) for its in _spots_after(other)
    ]
    taken = [mine and its for mine in _taken_at(one) for its in _taken_at(other)]
    fewest, ends = _least(spots, taken)
    if len(fewest) > MOST_SPOTS:
        raise TooMany(MOST_SPOTS)
    letters = _letters_in(one[0][0])
    return _wish(letters, fewest, tuple([spot for spot, end in enumerate(ends) if end]))


def either(one, other):
    """Return the WISH with the fewest SPOTS that takes the WORDS that one of two WISHES takes."""
    return not_taken(both(not_taken(one), not_taken(other)))


def not_taken(wish):
    """Return the WISH that takes just all other WORDS."""
    steps, ends = wish
    return (steps, tuple([spot for spot in range(len(steps)) if spot not in ends]))
