"""PILES and ENCLOSURES: numbers told by powers of two, which may be too great to be written.

What is shifted here is shifted by few bits: powers far apart are compared without being worked out.
"""


def compared(one, other):
    """Return -1, 0 or 1 as one PILE stands for less than the other one, for as much, for more."""
    apart = _by_powers([(c, e) for c, e in one] + [(-c, e) for c, e in other])
    left = sum([abs(c) for _, c in apart.items()])
    met, at = 0, 0
    for e in sorted(apart, reverse=True):
        # All that is left stands for at most left * 2 ** e.
        if met != 0 and (at - e >= left.bit_length() or abs(met) << (at - e) > left):
            break
        met = apart[e] + (met << (at - e) if met != 0 else 0)
        at = e
        left -= abs(apart[e])
    if met < 0:
        return -1
    return 1 if met > 0 else 0


def _by_powers(pile):
    """Return the dict from each e of a PILE to the sum of its c."""
    sums = {}
    for c, e in pile:
        sums[e] = sums.get(e, 0) + c
    return sums


def around(lows, highs, bits):
    """Return the ENCLOSURE from lows to highs with the least e for which high is below 2 ** bits."""
    low_parts, high_parts = _parts_of(lows), _parts_of(highs)
    e = max(0, _length_of(high_parts) - bits)
    if _rounded_up(high_parts, e).bit_length() > bits:
        e += 1
    return (_rounded_down(low_parts, e), _rounded_up(high_parts, e), e)


def _parts_of(pile):
    """Return a PILE that stands for as much: e ascending, no c reaching up to the next e, none 0."""
    sums = _by_powers(pile)
    parts = []
    carried, at = 0, 0
    for e in sorted(sums):
        kept, carried = _parted(carried, e - at)
        parts.append((kept, at))
        carried += sums[e]
        at = e
    parts.append((carried, at))
    return [(c, e) for c, e in parts if c > 0]


def _parted(c, bits):
    """Return what the lowest bits of an integer tell, and what all others do; there may be few of them."""
    if bits >= c.bit_length():
        return (c, 0)
    return (c & ((1 << bits) - 1), c >> bits)


def _length_of(parts):
    """Return how many binary digits the number has for which parts stand."""
    return parts[-1][0].bit_length() + parts[-1][1] if parts else 0


def _rounded_down(parts, e):
    """Return the greatest integer not above parts by 2 ** e."""
    # The parts have no binary digit in common, so each may be rounded by itself.
    return sum([c << (at - e) if at >= e else _parted(c, e - at)[1] for c, at in parts])


def _rounded_up(parts, e):
    """Return the least integer not below parts by 2 ** e."""
    is_even = all([at >= e or _parted(c, e - at)[0] == 0 for c, at in parts])
    return _rounded_down(parts, e) + (0 if is_even else 1)


def exact_one(x):
    """Return the ENCLOSURE of just one integer."""
    return (x, x, 0)


def product_of(one, other):
    """Return the ENCLOSURE of the products of what two ENCLOSURES HOLD."""
    return (one[0] * other[0], one[1] * other[1], one[2] + other[2])


def sum_of(enclosures, bits):
    """Return an ENCLOSURE, with so many bits, of the sums of what ENCLOSURES HOLD."""
    lows = [(low, e) for low, _, e in enclosures]
    return around(lows, [(high, e) for _, high, e in enclosures], bits)


def trimmed(enclosure, bits):
    """Return an ENCLOSURE, with so many bits, of what an ENCLOSURE HOLDS."""
    return sum_of([enclosure], bits)


def holds(enclosure, x):
    """Tell whether an ENCLOSURE HOLDS an integer."""
    return lies_in(exact_one(x), enclosure)


def lies_in(one, other):
    """Tell whether an ENCLOSURE HOLDS all that another one, told first, does."""
    if compared([(other[0], other[2])], [(one[0], one[2])]) > 0:
        return False
    return compared([(one[1], one[2])], [(other[1], other[2])]) <= 0
