"""MODELS that give each WORD the same CHANCE: a paper that they do, or where they part."""

from math import lcm

from unwrittenrow.forms import is_fraction, is_from, is_same_value, is_tuple, is_word
from unwrittenrow.fractions import reduced
from unwrittenrow.lengths import has_length, item_at, lengths_of
from unwrittenrow.models import letters_in, states_of, total_of, weight_of
from unwrittenrow.spans import Span


def parting(one, other):
    """Return the least PARTING of two MODELS, `None` if they are ALIKE."""
    n = _least_length_that_parts(one, other)
    if n is not None:
        return ("length", n)
    word = _gone_through(one, other, Span(_items_of_tracks(one, other), False))[1]
    return None if word is None else ("word", word, chance_by(one, word), chance_by(other, word))


def _least_length_that_parts(one, other):
    """Return the least n for which Z(n) is above 0 by just one of two MODELS, `None` if there is none."""
    mine, its = lengths_of(one), lengths_of(other)
    if mine == its:
        return None
    n = 0
    while item_at(mine, n) == item_at(its, n):
        n += 1
    return n


def is_parting(one, other, thing):
    """Tell whether any value is a PARTING of two MODELS."""
    if is_tuple(thing, 2, 2) and is_same_value(thing[0], "length"):
        return is_from(thing[1], 0) and has_length(one, thing[1]) != has_length(other, thing[1])
    if not (is_tuple(thing, 4, 4) and is_same_value(thing[0], "word") and is_word(thing[1])):
        return False
    chances = (chance_by(one, thing[1]), chance_by(other, thing[1]))
    if None in chances or chances[0] == chances[1]:
        return False
    return is_same_value(thing[2:], chances)


def chance_by(model, word):
    """Return the CHANCE of a WORD, `None` if there are no WORDS of its length."""
    total = total_of(model, len(word))
    if total == 0:
        return None
    letters = letters_in(model)
    is_known = all([letter in letters for letter in word])
    return reduced(weight_of(model, word) if is_known else 0, total)


def track_of(one, other, word):
    """Return the TRACK of a WORD, a tuple of integers."""
    mine, its = list(one[1]), list(other[1])
    for letter in word:
        mine, its = _moved_by(one, mine, letter), _moved_by(other, its, letter)
    return _track(mine, its, _ends_of_all(one, len(word)), _ends_of_all(other, len(word)))


def _moved_by(model, sums, letter):
    """Return what sums for each STATE become along the arcs with a LETTER."""
    led = [0 for _ in sums]
    for p, its, q, w in model[3]:
        if its == letter:
            led[q] += sums[p] * w
    return led


def _moved_by_all(model, sums):
    """Return what sums for each STATE become along all arcs."""
    led = [0 for _ in sums]
    for p, _, q, w in model[3]:
        led[q] += sums[p] * w
    return led


def _ends_of_all(model, n):
    """Return the sums, for each STATE, of the WALKS of all WORDS with n LETTERS to it."""
    sums = list(model[1])
    for _ in range(n):
        sums = _moved_by_all(model, sums)
    return sums


def _track(mine, its, mine_of_all, its_of_all):
    """Return the TRACK of a WORD by the sums for each STATE of two MODELS, its own and those of all WORDS."""
    first = [mine_here * its_there for mine_here in mine for its_there in its_of_all]
    second = [mine_here * its_there for mine_here in mine_of_all for its_there in its]
    return tuple(first + second)


def _items_of_tracks(one, other):
    return 2 * states_of(one) * states_of(other)


def value_of(one, other, track):
    """Return the VALUE of a TRACK."""
    ends = [mine * its for mine in one[2] for its in other[2]]
    half = len(ends)
    return sum([item * end for item, end in zip(track[:half], ends)]) - sum([
        item * end for item, end in zip(track[half:], ends)
    ])


def _letters_of_arcs(one, other):
    """Return the list of the LETTERS of the arcs of two MODELS, ascending."""
    return sorted({arc[1] for arc in one[3] + other[3]})


def _gone_through(one, other, span):
    """Return the WORDS whose TRACKS are no sums of multiples of earlier ones, and the least WORD that parts.

    The span takes their TRACKS. If two MODELS have no length that parts them, and no such WORD, `None`
    for it, they are ALIKE: what is behind a WORD whose TRACK is such a sum has no other VALUE than 0 either.
    """
    letters = _letters_of_arcs(one, other)
    words = []
    ahead = [("", list(one[1]), list(other[1]))]
    totals = [(list(one[1]), list(other[1]))]
    at = 0
    while at < len(ahead):
        word, mine, its = ahead[at]
        at += 1
        if len(word) == len(totals):
            totals.append((_moved_by_all(one, totals[-1][0]), _moved_by_all(other, totals[-1][1])))
        track = _track(mine, its, totals[len(word)][0], totals[len(word)][1])
        if value_of(one, other, track) != 0:
            return (words, word)
        # The first WORD is "" in each case.
        if span.takes(track) or word == "":
            words.append(word)
            ahead.extend([
                (word + letter, _moved_by(one, mine, letter), _moved_by(other, its, letter)) for letter in letters
            ])
    return (words, None)


def alike_paper(one, other):
    """Return an ALIKE PAPER of two MODELS, `None` if they part."""
    if _least_length_that_parts(one, other) is not None:
        return None
    span = Span(_items_of_tracks(one, other), True)
    words, apart = _gone_through(one, other, span)
    if apart is not None:
        return None
    rows = [
        span.multiples_for(track_of(one, other, word + letter), len(words))
        for word in words for letter in _letters_of_arcs(one, other)
    ]
    return (tuple(words), tuple(rows))


def is_alike_paper(one, other, thing):
    """Tell whether any value is an ALIKE PAPER of two MODELS whose WORDS have the same lengths."""
    letters = _letters_of_arcs(one, other)
    if not (_has_form_of_paper(thing, len(letters)) and lengths_of(one) == lengths_of(other)):
        return False
    words, rows = thing
    tracks = [track_of(one, other, word) for word in words]
    if not all([value_of(one, other, track) == 0 for track in tracks]):
        return False
    longer = [word + letter for word in words for letter in letters]
    return all([_is_sum(track_of(one, other, word), row, tracks) for word, row in zip(longer, rows)])


def _has_form_of_paper(thing, letters):
    """Tell whether any value is a tuple of WORDS and of rows of FRACTIONS, as many as there have to be."""
    if not (is_tuple(thing, 2, 2) and isinstance(thing[0], tuple) and isinstance(thing[1], tuple)):
        return False
    words, rows = thing
    if not (words and all([is_word(word) for word in words]) and words[0] == ""):
        return False
    many = len(words)
    if not all([(len(word), word) < (len(later), later) for word, later in zip(words, words[1:])]):
        return False
    if len(rows) != many * letters or not all([is_tuple(row, many, many) for row in rows]):
        return False
    return all([is_fraction(item) for row in rows for item in row])


def _is_sum(track, multiples, tracks):
    """Tell whether a TRACK is the sum of TRACKS, each times its FRACTION."""
    whole = 1
    for _, d in multiples:
        whole = lcm(whole, d)
    factors = [n * (whole // d) for n, d in multiples]
    return all([
        whole * item == sum([factor * its[at] for factor, its in zip(factors, tracks)])
        for at, item in enumerate(track)
    ])


def are_alike(one, other):
    """Tell whether two MODELS are ALIKE."""
    return parting(one, other) is None


def alike_kinds(models):
    """Return the list of the LOTS of the places of MODELS that are ALIKE, ascending."""
    kinds = []
    for at, model in enumerate(models):
        likes = [kind for kind in kinds if are_alike(models[kind[0]], model)]
        if likes:
            likes[0].append(at)
        else:
            kinds.append([at])
    return [tuple(kind) for kind in kinds]
