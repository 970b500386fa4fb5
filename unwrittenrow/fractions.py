"""FRACTIONS: exact numbers."""

from math import gcd

from unwrittenrow.numerals import shown


def reduced(n, d):
    """Return the FRACTION that is n by d, d not being 0."""
    common = gcd(n, d)
    if d < 0:
        common = -common
    return (n // common, d // common)


def added(one, other):
    """Return the sum of two FRACTIONS."""
    return reduced(one[0] * other[1] + other[0] * one[1], one[1] * other[1])


def times(one, other):
    """Return the product of two FRACTIONS."""
    return reduced(one[0] * other[0], one[1] * other[1])


def over(one, other):
    """Return the quotient of two FRACTIONS, the other one not being 0."""
    return reduced(one[0] * other[1], one[1] * other[0])


def compared(one, other):
    """Return -1, 0 or 1 as one FRACTION is less than, as great as, greater than the other."""
    apart = one[0] * other[1] - other[0] * one[1]
    if apart < 0:
        return -1
    return 1 if apart > 0 else 0


def half_to(e):
    """Return 1 by 2 ** e."""
    return (1, 1 << e)


def decimal_below(one, places):
    """Return the greatest number with so many places that is not above a FRACTION from 0 on."""
    return _with_point(one[0] * _tens(places) // one[1], places)


def decimal_above(one, places):
    """Return the least number with so many places that is not below a FRACTION from 0 on."""
    # The negative numbers round down, so the number that they stand for rounds up.
    return _with_point(-(-one[0] * _tens(places) // one[1]), places)


def _tens(places):
    """Return 10 to a power."""
    scale = 1
    for _ in range(places):
        scale = scale * 10
    return scale


def _with_point(number, places):
    """Return the digits of a number with a point ahead of so many of them."""
    digits = shown(number).zfill(places + 1)
    if places == 0:
        return digits
    return digits[:len(digits) - places] + "." + digits[len(digits) - places:]
