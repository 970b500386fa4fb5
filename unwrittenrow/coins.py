"""COINS: those that are told, and those of the SPRING."""

PRIME = 2305843009213693951
STEEP = 48271
LIFT = 2147483629


def spring(seed, name, k):
    """Return the COIN k of a NAME that the SPRING tells."""
    i, j = (name[0] + 1, name[1] + 1) if name else (0, 0)
    x = seed % PRIME
    for a in (i, j, k, 1, 2):
        x = ((x + a + 1) * (x + a + 1) * STEEP + LIFT) % PRIME
    return (x >> 30) & 1 == 1


def coin(coins, name, k):
    """Return the COIN k of a NAME."""
    return _coin_by(_told_of(coins, name), coins[0], name, k)


def _told_of(coins, name):
    """Return the dict from k to the truths that are told of a NAME."""
    return {k: truth for other, k, truth in coins[1] if other == name}


def _coin_by(told, seed, name, k):
    return told[k] if k in told else spring(seed, name, k)


def beginning(coins, name, d):
    """Return the integer whose binary digits are the first d COINS of a NAME."""
    c = 0
    told = _told_of(coins, name)
    for k in range(d):
        c = 2 * c + (1 if _coin_by(told, coins[0], name, k) else 0)
    return c


def with_told(coins, name, truths):
    """Return the COINS in which just so many COINS of a NAME are told, the first ones."""
    seed, told = coins
    others = [one for one in told if one[0] != name]
    return (seed, tuple(sorted(others + [(name, k, truth) for k, truth in enumerate(truths)])))
