"""What can come where: which STANDS have V above 0, told by truths alone.

ROWS tell, for each STATE p, by the bits of an integer to what it leads: the bit m * s + q, s being
the number of STATES, stands for the STAND (p, q, m). Where it is told of a BLOCK what it has in
common with a stretch, m stands for a pair: of the MEMBER of the BLOCK and that of the common places.
"""

from unwrittenrow.blocks import halves_of, key_of, keys_of_halves, keys_within, lot_at, lot_of_key, places_of, way_to
from unwrittenrow.models import states_of


def support_of(model, facts, block):
    """Return the ascending tuple of the STANDS of a BLOCK for which V is above 0."""
    rows = _rows_of_keys(model, facts, block)[key_of(facts, block)]
    stands = [(p, q, m) for p, row in enumerate(rows) for m, q in _ones_in(row, len(rows))]
    return tuple(sorted(stands))


def is_possible(model, n, facts):
    """Tell whether some WORD with n LETTERS has a WEIGHT above 0 and MEETS FACTS."""
    return max(_rows_of_words(model, n, facts)) > 0


def members_at(model, n, facts, i, j):
    """Return the LOT of the MEASURES that the LETTERS from i on, ahead of j, can have."""
    rows = _between_ends(model, _rows_with_stretch(model, n, facts, i, j))
    many = len(model[0][0])
    return tuple(sorted({pair % many for row in rows for pair, _ in _ones_in(row, len(rows))}))


def letters_at(model, n, facts, x):
    """Return the ascending tuple of the LETTERS that can stand at a place."""
    rows = _rows_at(model, n, facts, x)
    members, states = dict(model[0][1]), states_of(model)
    letters = {
        letter for p, letter, q, _ in model[3]
        if rows[p] & (1 << (members[letter] * states + q)) > 0
    }
    return tuple(sorted(letters))


def states_at(model, n, facts, x):
    """Return the ascending tuple of the STATES that a WALK can have behind x LETTERS."""
    if x < n:
        return tuple([p for p, row in enumerate(_rows_at(model, n, facts, x)) if row > 0])
    rows = _rows_of_words(model, n, facts)
    return tuple(sorted({q for row in rows for _, q in _ones_in(row, len(rows))}))


def can_be(model, n, facts, more):
    """Tell whether some word has, at a stretch, a MEASURE that is in a lot."""
    i, j, lot = more
    return any([x in lot for x in members_at(model, n, facts, i, j)])


def _rows_of_keys(model, facts, block):
    """Return the dict from the KEYS of a BLOCK, and of all BLOCKS in it, to their ROWS."""
    found = {}
    for key in keys_within(facts, [block]):
        if places_of(key) < 2:
            rows = _rows_of_few(model, places_of(key))
        else:
            first, second = keys_of_halves(facts, key)
            rows = _joined(model[0][0], found[first], found[second])
        lot = lot_of_key(facts, key)
        found[key] = rows if lot is None else _kept_to(rows, lot)
    return found


def _rows_of_few(model, places):
    """Return the ROWS of one place, or of none."""
    members, states = dict(model[0][1]), states_of(model)
    if places == 0:
        return [1 << p for p in range(states)]
    rows = [0 for _ in range(states)]
    for p, letter, q, _ in model[3]:
        rows[p] = rows[p] | (1 << (members[letter] * states + q))
    return rows


def _rows_of_words(model, n, facts):
    """Return the ROWS of the STANDS that (0, n) has in some word."""
    return _between_ends(model, _rows_of_keys(model, facts, (0, n))[key_of(facts, (0, n))])


def _between_ends(model, rows):
    """Return ROWS with just those STANDS whose begins and ends are above 0."""
    _, begins, ends, _ = model
    states = len(rows)
    kept = [[(m, q) for m, q in _ones_in(row, states) if ends[q] > 0] for row in rows]
    return [
        _united([1 << (m * states + q) for m, q in ones]) if begin > 0 else 0
        for ones, begin in zip(kept, begins)
    ]


def _rows_at(model, n, facts, x):
    """Return the ROWS of the STANDS that a place has in some word, by going down the TREE."""
    table = model[0][0]
    found = _rows_of_keys(model, facts, (0, n))
    rows = _between_ends(model, found[key_of(facts, (0, n))])
    for block in way_to(n, facts, x)[:-1]:
        halves = halves_of(facts, block)
        first, second = [found[key_of(facts, half)] for half in halves]
        if x < halves[0][1]:
            rows = _of_first_half(table, rows, first, second)
        else:
            rows = _of_second_half(table, rows, first, second)
    return rows


def _of_first_half(table, rows, first, second):
    """Return the ROWS of a first HALF that go, with some of the second one, into ROWS of the whole."""
    states = len(rows)
    parts = [_parts_of(row, states) for row in second]
    kept = [
        [
            (x, r) for x, r in _ones_in(row, states)
            if whole & _led_by(table[x], parts[r], states) > 0
        ]
        for whole, row in zip(rows, first)
    ]
    return [_united([1 << (x * states + r) for x, r in ones]) for ones in kept]


def _of_second_half(table, rows, first, second):
    """Return the ROWS of a second HALF that go, with some of the first one, into ROWS of the whole."""
    states = len(rows)
    parts = [_parts_of(row, states) for row in second]
    found = [0 for _ in rows]
    for whole, row in zip(rows, first):
        for x, r in _ones_in(row, states):
            kept = [
                (ends & (whole >> (table[x][y] * states))) << (y * states) for y, ends in parts[r]
            ]
            found[r] = found[r] | _united(kept)
    return found


def _rows_with_stretch(model, n, facts, i, j):
    """Return the ROWS of (0, n), m standing for pairs with the MEMBERS of the places from i to j."""
    table = model[0][0]
    many = len(table)
    products = _products_of_pairs(table)
    plain = _rows_of_keys(model, facts, (0, n))
    told = {}
    for block in _blocks_to_cuts(n, facts, i, j)[::-1]:
        if _is_cut(block, i, j):
            first, second = halves_of(facts, block)
            rows, lot = _joined(products, told[first], told[second]), lot_at(facts, block)
            if lot is not None:
                rows = _kept_to(rows, [m * many + z for m in lot for z in range(many)])
        else:
            is_inside = i <= block[0] and block[1] <= j
            rows = _paired(plain[key_of(facts, block)], many, is_inside)
        told[block] = rows
    return told[(0, n)]


def _blocks_to_cuts(n, facts, i, j):
    """Return the list of (0, n) and of the HALVES of all BLOCKS that are cut, each behind its whole."""
    blocks = []
    left = [(0, n)]
    while left:
        block = left.pop()
        blocks.append(block)
        if _is_cut(block, i, j):
            left.extend(halves_of(facts, block))
    return blocks


def _is_cut(block, i, j):
    """Tell whether just a part of a BLOCK lies from i on, ahead of j."""
    common = (max(block[0], i), min(block[1], j))
    return common[0] < common[1] and common != block


def _products_of_pairs(table):
    """Return the table by which pairs (m, z), numbered m * k + z, are multiplied."""
    many = len(table)
    return [
        [mx * many + zy for mx in table[m] for zy in table[z]]
        for m in range(many) for z in range(many)
    ]


def _paired(rows, many, is_inside):
    """Return ROWS in which each m stands for the pair with itself, or with 0."""
    states = len(rows)
    return [
        _united([
            ends << ((m * many + (m if is_inside else 0)) * states)
            for m, ends in _parts_of(row, states)
        ])
        for row in rows
    ]


def _joined(table, first, second):
    """Return the ROWS of a BLOCK by those of its HALVES, table telling x * y."""
    states = len(first)
    parts = [_parts_of(row, states) for row in second]
    led = {}
    rows = []
    for row in first:
        ones = _ones_in(row, states)
        for x, r in ones:
            if (x, r) not in led:
                led[(x, r)] = _led_by(table[x], parts[r], states)
        rows.append(_united([led[one] for one in ones]))
    return rows


def _led_by(products, parts, states):
    """Return the row that parts of a row become by a MEMBER ahead of it, products telling x * y."""
    return _united([ends << (products[y] * states) for y, ends in parts])


def _parts_of(row, states):
    """Return the list of the tuples of each m that a row has and the bits of its STATES."""
    whole = (1 << states) - 1
    parts = [(m, (row >> (m * states)) & whole) for m in range(row.bit_length() // states + 1)]
    return [(m, ends) for m, ends in parts if ends > 0]


def _ones_in(row, states):
    """Return the list of the tuples (m, q) whose bits are 1 in a row."""
    ones = []
    while row > 0:
        lowest = row & -row
        ones.append(divmod(lowest.bit_length() - 1, states))
        row = row ^ lowest
    return ones


def _united(rows):
    """Return the integer with each bit that is 1 in some integer."""
    united = 0
    for row in rows:
        united = united | row
    return united


def _kept_to(rows, members):
    """Return ROWS with just some m."""
    states = len(rows)
    kept = _united([((1 << states) - 1) << (m * states) for m in members])
    return [row & kept for row in rows]
