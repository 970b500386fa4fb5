"""The THINGS of CHOICES, whatever is told of the STANDS of which they come: V, or ENCLOSURES of it."""

from unwrittenrow.blocks import halves_of, key_of


def things_at(model, facts, told, name, stand):
    """Return the list of the THINGS of the CHOICE of a NAME with a STAND, that of () being n.

    told is a dict from KEYS to dicts from STANDS to what is told of them. For each THING
    there is a tuple (thing, whole, parts): its SHARE is the product of the integer whole and
    of all that parts are.
    """
    if name == ():
        return _things_of_ends(model, told[key_of(facts, (0, stand))])
    if name[1] - name[0] == 1:
        return _letters_between(model, stand)
    first, second = [told[key_of(facts, half)] for half in halves_of(facts, name)]
    return _things_of_halves(model, stand, first, second)


def _things_of_ends(model, told):
    _, begins, ends, _ = model
    stands = [(p, q, m) for p, q, m in sorted(told) if begins[p] > 0 and ends[q] > 0]
    return [(stand, begins[stand[0]] * ends[stand[1]], [told[stand]]) for stand in stands]


def _letters_between(model, stand):
    (_, values), _, _, arcs = model
    p, q, m = stand
    members = dict(values)
    return [
        (letter, w, []) for start, letter, end, w in arcs
        if start == p and end == q and members[letter] == m
    ]


def _things_of_halves(model, stand, first, second):
    p, q, m = stand
    found = []
    for r in range(len(model[1])):
        for x, row in enumerate(model[0][0]):
            if (p, r, x) not in first:
                continue
            found.extend([
                ((r, x, y), 1, [first[(p, r, x)], second[(r, q, y)]])
                for y, led in enumerate(row) if led == m and (r, q, y) in second
            ])
    return found
