"""BLOCKS of places, the TREE that parts them, and the KEYS by which they are told apart."""

from unwrittenrow.errors import Crossing
from unwrittenrow.forms import is_across, is_integer


def middle_of(facts, block):
    """Return the MIDDLE of a BLOCK of at least two places."""
    i, j = block
    inner = [(a, b) for a, b, _ in facts_in(facts, block) if (a, b) != block]
    if not inner:
        return i + (1 << ((j - i - 1).bit_length() - 1))
    # FACTS are ascending, so the first one has the least a.
    if inner[0][0] != i:
        return inner[0][0]
    return max([b for a, b in inner if a == i])


def halves_of(facts, block):
    """Return the tuple of the two HALVES of a BLOCK of at least two places."""
    middle = middle_of(facts, block)
    return ((block[0], middle), (middle, block[1]))


def facts_in(facts, block):
    """Return the tuple of the FACTS whose BLOCKS lie in a BLOCK."""
    i, j = block
    return tuple([fact for fact in facts if i <= fact[0] and fact[1] <= j])


def lot_at(facts, block):
    """Return the lot of the FACT of just this BLOCK, `None` if there is none."""
    for i, j, lot in facts:
        if (i, j) == block:
            return lot
    return None


def way_to(n, facts, x):
    """Return the list of the BLOCKS of the TREE in which a place lies, the greatest first."""
    way = [(0, n)]
    while way[-1][1] - way[-1][0] > 1:
        first, second = halves_of(facts, way[-1])
        way.append(first if x < second[0] else second)
    return way


def is_in_tree(n, facts, block):
    """Tell whether a BLOCK is one of the TREE."""
    return block in way_to(n, facts, block[0])


def tree_blocks(n, facts):
    """Return the list of all BLOCKS of the TREE, each one ahead of those of its HALVES."""
    blocks = []
    left = [(0, n)]
    while left:
        block = left.pop()
        blocks.append(block)
        if block[1] - block[0] > 1:
            first, second = halves_of(facts, block)
            left.extend([second, first])
    return blocks


def are_crossing(one, other):
    """Tell whether two BLOCKS CROSS."""
    return is_across(one, other)


def with_fact(facts, fact):
    """Return the FACTS with one more; two of the same BLOCK become one."""
    if any([is_across(fact, other) for other in facts]):
        raise Crossing(fact)
    i, j, lot = fact
    there = lot_at(facts, (i, j))
    if there is not None:
        lot = tuple([x for x in lot if x in there])
    others = [other for other in facts if other[:2] != (i, j)]
    return tuple(sorted(others + [(i, j, lot)]))


def key_of(facts, block):
    """Return the KEY of a BLOCK: the number of its places, or itself if a FACT lies in it."""
    return block if facts_in(facts, block) else block[1] - block[0]


def places_of(key):
    """Return the number of the places of the BLOCKS with a KEY."""
    return key if is_integer(key) else key[1] - key[0]


def keys_of_halves(facts, key):
    """Return the tuple of the KEYS of the HALVES of the BLOCKS with a KEY of at least two places."""
    if is_integer(key):
        middle = middle_of((), (0, key))
        return (middle, key - middle)
    first, second = halves_of(facts, key)
    return (key_of(facts, first), key_of(facts, second))


def lot_of_key(facts, key):
    """Return the lot of the FACT whose BLOCK is a KEY, `None` if there is none."""
    return None if is_integer(key) else lot_at(facts, key)


def keys_within(facts, blocks):
    """Return the list of the KEYS of BLOCKS and of all BLOCKS of the TREE that lie in them.

    Those with fewer places come first, so the KEYS of HALVES are ahead of that of the whole.
    """
    found = {}
    left = [key_of(facts, block) for block in blocks]
    while left:
        key = left.pop()
        if key not in found:
            found[key] = True
            if places_of(key) > 1:
                left.extend(keys_of_halves(facts, key))
    return sorted(found, key=places_of)
