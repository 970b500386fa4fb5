"""Whether any value is what the definitions of the document say."""

from math import gcd

MOST_MEMBERS = 8
MOST_LETTERS = 6
MOST_STATES = 6
MOST_WEIGHT = 1000000
# 2 to the power of 200, for what bounds the number of places.
MOST_PLACES = 1606938044258990275541962092341162602522202993782792835301376


def is_integer(thing):
    """Tell whether any value is an integer; a truth is none."""
    return isinstance(thing, int) and not isinstance(thing, bool)


def is_from(thing, low):
    """Tell whether any value is an integer from low on."""
    return is_integer(thing) and thing >= low


def is_within(thing, low, high):
    """Tell whether any value is an integer from low to high."""
    return is_integer(thing) and low <= thing <= high


def is_tuple(thing, least, most):
    """Tell whether any value is a tuple of so many items."""
    return isinstance(thing, tuple) and least <= len(thing) <= most


def is_ascending(items):
    """Tell whether each item, all of one kind, is less than the next one."""
    return all([one < other for one, other in zip(items, items[1:])])


def are_ascending_below(thing, bound):
    """Tell whether any value is an ascending tuple of integers from 0 on, below a bound."""
    if not isinstance(thing, tuple):
        return False
    return all([is_within(item, 0, bound - 1) for item in thing]) and is_ascending(thing)


def is_same_value(one, other):
    """Tell whether two values are the same, a truth never being taken for a number in them."""
    if one != other or isinstance(one, bool) != isinstance(other, bool):
        return False
    if isinstance(one, (list, tuple)):
        return all([is_same_value(mine, its) for mine, its in zip(one, other)])
    if isinstance(one, dict):
        keys = {key: key for key in other}
        return all([is_same_value((key, one[key]), (keys[key], other[key])) for key in one])
    return True


def is_fraction(thing):
    """Tell whether any value is a FRACTION."""
    if not is_tuple(thing, 2, 2):
        return False
    return is_integer(thing[0]) and is_from(thing[1], 1) and gcd(thing[0], thing[1]) == 1


def is_letter(thing):
    """Tell whether any value is a LETTER."""
    return isinstance(thing, str) and len(thing) == 1 and "a" <= thing <= "z"


def is_word(thing):
    """Tell whether any value is a WORD."""
    return isinstance(thing, str) and all([is_letter(sign) for sign in thing])


def is_table(thing):
    """Tell whether any value is the table of a MEASURE."""
    if not is_tuple(thing, 1, MOST_MEMBERS):
        return False
    if not all([_is_row(row, len(thing)) for row in thing]):
        return False
    return _leaves_all(thing) and _is_associative(thing)


def _is_row(thing, many):
    if not is_tuple(thing, many, many):
        return False
    return all([is_within(item, 0, many - 1) for item in thing])


def _leaves_all(table):
    """Tell whether 0 * x and x * 0 are x."""
    return all([table[0][x] == x and table[x][0] == x for x in range(len(table))])


def _is_associative(table):
    members = range(len(table))
    return all([
        table[table[x][y]][z] == table[x][table[y][z]]
        for x in members for y in members for z in members
    ])


def is_measure(thing):
    """Tell whether any value is a MEASURE."""
    if not is_tuple(thing, 2, 2):
        return False
    return is_table(thing[0]) and _are_values(thing[1], len(thing[0]))


def _are_values(thing, many):
    if not is_tuple(thing, 1, MOST_LETTERS):
        return False
    if not all([_is_value(item, many) for item in thing]):
        return False
    return is_ascending([item[0] for item in thing])


def _is_value(thing, many):
    return is_tuple(thing, 2, 2) and is_letter(thing[0]) and is_within(thing[1], 0, many - 1)


def is_member(measure, thing):
    """Tell whether any value is a MEMBER of a MEASURE."""
    return is_within(thing, 0, len(measure[0]) - 1)


def is_lot(measure, thing):
    """Tell whether any value is a LOT of a MEASURE."""
    return are_ascending_below(thing, len(measure[0]))


def letters_of(measure):
    """Return the string of the LETTERS of a MEASURE, ascending."""
    return "".join([item[0] for item in measure[1]])


def is_word_of(measure, thing):
    """Tell whether any value is a WORD of LETTERS of a MEASURE."""
    letters = letters_of(measure)
    return isinstance(thing, str) and all([sign in letters for sign in thing])


def is_model(thing):
    """Tell whether any value is a MODEL."""
    if not is_tuple(thing, 4, 4):
        return False
    measure, begins, ends, arcs = thing
    if not (is_measure(measure) and are_weights(begins) and are_weights(ends)):
        return False
    return len(begins) == len(ends) and _are_arcs(arcs, len(begins), letters_of(measure))


def are_weights(thing):
    """Tell whether any value may be the begins, or the ends, of a MODEL."""
    if not is_tuple(thing, 1, MOST_STATES):
        return False
    return all([is_within(item, 0, MOST_WEIGHT) for item in thing])


def _are_arcs(thing, states, letters):
    if not isinstance(thing, tuple):
        return False
    if not all([is_arc(item, states, letters) for item in thing]):
        return False
    return is_ascending([item[:3] for item in thing])


def is_arc(thing, states, letters):
    """Tell whether any value may be an arc of a MODEL with so many STATES and these LETTERS."""
    if not is_tuple(thing, 4, 4):
        return False
    p, letter, q, w = thing
    if not (is_within(p, 0, states - 1) and is_within(q, 0, states - 1)):
        return False
    return is_letter(letter) and letter in letters and is_within(w, 1, MOST_WEIGHT)


def is_block(thing):
    """Tell whether any value is a BLOCK."""
    if not (is_tuple(thing, 2, 2) and is_from(thing[0], 0) and is_integer(thing[1])):
        return False
    return thing[0] < thing[1]


def is_across(one, other):
    """Tell whether two BLOCKS have places in common, and neither lies in the other.

    What stands behind i and j, as the lot of a FACT, is not looked at.
    """
    return one[0] < other[0] < one[1] < other[1] or other[0] < one[0] < other[1] < one[1]


def are_facts(measure, n, thing):
    """Tell whether any value is FACTS for n with LOTS of a MEASURE."""
    if not isinstance(thing, tuple):
        return False
    if not all([_is_fact(measure, n, item) for item in thing]):
        return False
    if not is_ascending([item[:2] for item in thing]):
        return False
    return not any([
        is_across(one, other) for at, one in enumerate(thing) for other in thing[at + 1:]
    ])


def _is_fact(measure, n, thing):
    if not (is_tuple(thing, 3, 3) and is_block(thing[:2])):
        return False
    return thing[1] <= n and is_lot(measure, thing[2])


def is_name(thing):
    """Tell whether any value is a NAME."""
    return is_tuple(thing, 0, 0) or is_block(thing)


def are_coins(thing):
    """Tell whether any value is COINS."""
    if not (is_tuple(thing, 2, 2) and is_from(thing[0], 0) and isinstance(thing[1], tuple)):
        return False
    if not all([_is_told(item) for item in thing[1]]):
        return False
    return is_ascending([item[:2] for item in thing[1]])


def _is_told(thing):
    if not is_tuple(thing, 3, 3):
        return False
    return is_name(thing[0]) and is_from(thing[1], 0) and isinstance(thing[2], bool)


def is_enclosure(thing):
    """Tell whether any value is an ENCLOSURE."""
    if not is_tuple(thing, 3, 3):
        return False
    return all([is_from(item, 0) for item in thing]) and thing[0] <= thing[1]
