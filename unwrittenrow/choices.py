"""CHOICES: which THING is MADE by COINS, by its SHARE or by an ENCLOSURE of this."""

from unwrittenrow.coins import coin
from unwrittenrow.enclosures import compared


def made_by(shares, c, d):
    """Return the index of the THING that is MADE by a BEGINNING, `None` if there is none."""
    total = sum(shares)
    low, high = c * total, (c + 1) * total
    ahead = 0
    for index, share in enumerate(shares):
        if ahead << d <= low and high <= (ahead + share) << d:
            return index
        ahead += share
    return None


def chosen(shares, coins, name, most):
    """Return the index of the THING that a NAME makes, and the least d, at most most, that shows it."""
    c = 0
    for d in range(most + 1):
        index = made_by(shares, c, d)
        if index is not None:
            return (index, d)
        c = _with_next(c, coins, name, d)
    return None


def _with_next(c, coins, name, d):
    """Return the BEGINNING d + 1 of a NAME, c being the BEGINNING d."""
    return 2 * c + (1 if coin(coins, name, d) else 0)


def times_made(shares, index, d):
    """Return how many of all BEGINNINGS d make the THING with an index."""
    total, ahead = sum(shares), sum(shares[:index])
    # Those from first on, ahead of last.
    first = -(-(ahead << d) // total)
    last = ((ahead + shares[index]) << d) // total
    return max(0, last - first)


def times_none(shares, d):
    """Return how many of all BEGINNINGS d make no THING."""
    return (1 << d) - sum([times_made(shares, index, d) for index in range(len(shares))])


def is_shown(numbers, index, c, d):
    """Tell whether a BEGINNING shows by ENCLOSURES that the THING with an index is MADE."""
    return _is_ahead_shown(numbers, index, c, d) and _is_behind_shown(numbers, index, c, d)


def _is_ahead_shown(numbers, index, c, d):
    """Tell whether what is MADE is none of the THINGS ahead of an index."""
    rest = (1 << d) - c
    ahead = [(high * rest, e) for _, high, e in numbers[:index]]
    return compared(ahead, [(c * low, e) for low, _, e in numbers[index:]]) <= 0


def _is_behind_shown(numbers, index, c, d):
    """Tell whether what is MADE is none of the THINGS behind an index."""
    rest = (1 << d) - c - 1
    behind = [((c + 1) * high, e) for _, high, e in numbers[index + 1:]]
    return compared(behind, [(rest * low, e) for low, _, e in numbers[:index + 1]]) <= 0


def shown_within(numbers, coins, name, most):
    """Return the index of the THING that is shown with the least d, at most most, and this d."""
    c = 0
    for d in range(most + 1):
        index = _least_shown(numbers, c, d)
        if index is not None:
            return (index, d)
        c = _with_next(c, coins, name, d)
    return None


def _least_shown(numbers, c, d):
    """Return the least index that a BEGINNING shows, `None` if there is none."""
    # With a greater index less is behind and more ahead: so it is sought by halving where nothing
    # behind can be MADE any more, and if something ahead of that can be, it is so of all others, too.
    low, high = 0, len(numbers) - 1
    while low < high:
        middle = (low + high) // 2
        if _is_behind_shown(numbers, middle, c, d):
            high = middle
        else:
            low = middle + 1
    return low if is_shown(numbers, low, c, d) else None
