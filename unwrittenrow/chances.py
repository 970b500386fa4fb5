"""CHANCES: exact ones of short rows, ENCLOSURES of those of long ones, and what finitely many COINS give."""

from unwrittenrow.blocks import halves_of, key_of, tree_blocks, with_fact
from unwrittenrow.choices import times_made
from unwrittenrow.enclosures import compared, sum_of
from unwrittenrow.errors import NoRow
from unwrittenrow.fractions import reduced
from unwrittenrow.measures import measure_of
from unwrittenrow.models import total_of, weight_of
from unwrittenrow.papers import shares_in
from unwrittenrow.rows import first_things, shares_at
from unwrittenrow.tables import made_tables
from unwrittenrow.weights import total_under, weights_within


def chance_of_word(model, n, facts, word):
    """Return the CHANCE of a WORD under FACTS."""
    total = total_under(model, n, facts)
    if total == 0:
        raise NoRow()
    return reduced(weight_of(model, word) if _can_come(model, n, facts, word) else 0, total)


def _can_come(model, n, facts, word):
    """Tell whether a WORD has n LETTERS and MEETS FACTS."""
    return len(word) == n and all([measure_of(model[0], word[i:j]) in lot for i, j, lot in facts])


def chance_of_facts(model, n, facts):
    """Return Z(n, FACTS) by Z(n)."""
    total = total_of(model, n)
    if total == 0:
        raise NoRow()
    return reduced(total_under(model, n, facts), total)


def chance_of_fact(model, n, facts, fact):
    """Return the chance that a WORD that MEETS FACTS meets one more."""
    more = with_fact(facts, fact)
    total = total_under(model, n, facts)
    if total == 0:
        raise NoRow()
    return reduced(total_under(model, n, more), total)


def total_around(model, n, facts, bits):
    """Return an ENCLOSURE, with so many bits, of Z(n, FACTS)."""
    tables = made_tables(model, facts, [(0, n)], bits)
    return sum_of([number for _, number in shares_in(model, facts, tables, (), n)], bits)


def chance_between(model, n, facts, bits, digits):
    """Return the tuple of two FRACTIONS between which Z(n, FACTS) by Z(n) is."""
    every = total_around(model, n, (), bits)
    if every[1] == 0:
        raise NoRow()
    some = total_around(model, n, facts, bits)
    least = _parts_up_to((some[0] << digits, some[2]), (every[1], every[2]), digits)
    most = _parts_from((some[1] << digits, some[2]), (every[0], every[2]), digits)
    return (reduced(least, 1 << digits), reduced(most, 1 << digits))


def _parts_from(number, part, digits):
    """Return the least k for which k times a part is at least a number, 2 ** digits if no k below is.

    Both are tuples (c, e) that stand for c * 2 ** e. As the e may be far apart, k is sought by halving.
    """
    low, high = 0, 1 << digits
    while low < high:
        middle = (low + high) // 2
        if compared([(middle * part[0], part[1])], [number]) >= 0:
            high = middle
        else:
            low = middle + 1
    return low


def _parts_up_to(number, part, digits):
    """Return the greatest k for which k times a part is at most a number, 2 ** digits if that k is, too."""
    low, high = 0, 1 << digits
    while low < high:
        middle = (low + high + 1) // 2
        if compared([(middle * part[0], part[1])], [number]) <= 0:
            low = middle
        else:
            high = middle - 1
    return low


def share_by_coins(model, n, facts, word, d):
    """Return the share of all ways to tell d COINS of each NAME by which a WORD comes."""
    if not first_things(model, n, facts):
        raise NoRow()
    if not _can_come(model, n, facts, word):
        return (0, 1)
    weights = weights_within(model, facts, [(0, n)])
    told = {}
    # So each BLOCK comes behind its HALVES.
    for block in tree_blocks(n, facts)[::-1]:
        told[block] = _times_of_block(model, facts, weights, told, word, block, d)
    times = _times_that(shares_at(model, facts, weights, (), n), told[(0, n)], d)
    # There are 2 * n - 1 BLOCKS in the TREE, and ().
    return reduced(times, 1 << (2 * n * d))


def _times_of_block(model, facts, weights, told, word, block, d):
    """Return the dict from the STANDS of a BLOCK to how often its part of a WORD comes, told that of its HALVES."""
    measure = measure_of(model[0], word[block[0]:block[1]])
    times = {}
    for stand in weights[key_of(facts, block)]:
        if stand[2] == measure:
            ways = _ways_on(facts, told, word, block, stand)
            times[stand] = _times_that(shares_at(model, facts, weights, block, stand), ways, d)
    return times


def _ways_on(facts, told, word, block, stand):
    """Return the dict from THINGS of a BLOCK to the ways by which its HALVES, or its LETTER, come so."""
    if block[1] - block[0] == 1:
        return {word[block[0]]: 1}
    first, second = [told[half] for half in halves_of(facts, block)]
    p, q, _ = stand
    return {
        (r, x, y): first[(start, r, x)] * second[(r, end, y)]
        for start, r, x in first if start == p for s, end, y in second if s == r and end == q
    }


def _times_that(shares, ways, d):
    """Return how often some BEGINNINGS d make a THING, each times the ways on from it."""
    numbers = [share for _, share in shares]
    return sum([
        times_made(numbers, index, d) * ways[thing]
        for index, (thing, _) in enumerate(shares) if thing in ways
    ])
