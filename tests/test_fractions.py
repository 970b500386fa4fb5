"""[13]: FRACTIONS, held against those of Python's own library."""

import fractions
import itertools
import unittest

from tests.helpers import leaves_alone
from unwrittenrow.forms import is_fraction
from unwrittenrow.fractions import (
    added, compared, decimal_above, decimal_below, half_to, over, reduced, times,
)

SOME = [
    (0, 1), (1, 1), (-1, 1), (1, 2), (-1, 2), (2, 3), (-5, 6), (7, 6), (10 ** 40 + 1, 10 ** 40),
    (10 ** 40, 10 ** 40 + 1), (-(10 ** 40), 10 ** 40 + 1), (3 ** 200, 2 ** 300), (-(7 ** 90), 5 ** 50),
    (2 ** 1000, 1), (1, 3 ** 700),
]


def plain(one):
    return fractions.Fraction(*one)


def told(one):
    return (one.numerator, one.denominator)


class Reckoning(unittest.TestCase):
    def test_reduced(self):
        for n in list(range(-30, 31)) + [10 ** 50, -(10 ** 50), 6 ** 100]:
            for d in [*range(-12, 0), *range(1, 13), 10 ** 48, -(10 ** 48), 6 ** 99]:
                found = reduced(n, d)
                self.assertEqual(found, told(plain((n, d))))
                self.assertTrue(is_fraction(found))
        self.assertEqual([reduced(0, -7), reduced(-6, -4), reduced(6, -4)], [(0, 1), (3, 2), (-3, 2)])

    def test_sums_products_and_quotients(self):
        for one, other in itertools.product(SOME, SOME):
            with self.subTest(one=one, other=other):
                self.assertEqual(leaves_alone(self, added, one, other), told(plain(one) + plain(other)))
                self.assertEqual(leaves_alone(self, times, one, other), told(plain(one) * plain(other)))
                if other != (0, 1):
                    self.assertEqual(leaves_alone(self, over, one, other), told(plain(one) / plain(other)))

    def test_compared(self):
        for one, other in itertools.product(SOME, SOME):
            apart = plain(one) - plain(other)
            expected = (apart > 0) - (apart < 0)
            self.assertEqual(leaves_alone(self, compared, one, other), expected)
            self.assertIs(type(compared(one, other)), int)
        great = 10 ** 60
        self.assertEqual(compared((great, great + 1), (great + 1, great + 2)), -1)
        self.assertEqual(compared((-great, great + 1), (-great - 1, great + 2)), 1)

    def test_half_to(self):
        self.assertEqual([half_to(e) for e in range(4)], [(1, 1), (1, 2), (1, 4), (1, 8)])
        self.assertEqual(half_to(3000), (1, 2 ** 3000))


class Decimals(unittest.TestCase):
    def value(self, text, places):
        """Return the number that a text shows, having looked at its form."""
        if places == 0:
            self.assertNotIn(".", text)
            whole, rest = text, ""
        else:
            whole, rest = text.split(".")
        self.assertEqual(len(rest), places)
        self.assertTrue(whole.isdigit() and (whole == "0" or whole[0] != "0"))
        return fractions.Fraction(int(whole + rest), 10 ** places)

    def test_they_are_next_to_the_fraction(self):
        chosen = [one for one in SOME if one[0] >= 0] + [reduced(n, d) for n in range(40) for d in (1, 3, 8, 20, 30)]
        for one in chosen:
            for places in (0, 1, 2, 3, 10, 40):
                with self.subTest(one=one, places=places):
                    below = self.value(leaves_alone(self, decimal_below, one, places), places)
                    above = self.value(leaves_alone(self, decimal_above, one, places), places)
                    step = fractions.Fraction(1, 10 ** places)
                    self.assertTrue(below <= plain(one) < below + step)
                    self.assertTrue(above - step < plain(one) <= above)

    def test_what_digits_hit_and_just_do_not(self):
        self.assertEqual([decimal_below((1, 8), 3), decimal_above((1, 8), 3)], ["0.125", "0.125"])
        self.assertEqual([decimal_below((1, 8), 2), decimal_above((1, 8), 2)], ["0.12", "0.13"])
        just = reduced(125 * 10 ** 50 + 1, 10 ** 53)
        self.assertEqual([decimal_below(just, 3), decimal_above(just, 3)], ["0.125", "0.126"])
        ahead = reduced(125 * 10 ** 50 - 1, 10 ** 53)
        self.assertEqual([decimal_below(ahead, 3), decimal_above(ahead, 3)], ["0.124", "0.125"])
        self.assertEqual([decimal_below((999, 1000), 2), decimal_above((999, 1000), 2)], ["0.99", "1.00"])
        self.assertEqual([decimal_below((999, 1000), 0), decimal_above((999, 1000), 0)], ["0", "1"])
        self.assertEqual([decimal_below((0, 1), 0), decimal_above((0, 1), 3)], ["0", "0.000"])
        self.assertEqual([decimal_below((1, 10 ** 9), 4), decimal_above((1, 10 ** 9), 4)], ["0.0000", "0.0001"])

    def test_numbers_with_more_digits_than_str_takes(self):
        great = (10 ** 9000 + 7, 1)
        self.assertEqual(decimal_below(great, 0), "1" + "0" * 8999 + "7")
        self.assertEqual(decimal_above((10 ** 9001 + 7, 10), 1)[-3:], "0.7")
        self.assertEqual(decimal_below((1, 3), 6000), "0." + "3" * 6000)
        self.assertEqual(decimal_above((1, 3), 6000), "0." + "3" * 5999 + "4")
        self.assertEqual(decimal_below((10 ** 119 + 10 ** 59, 1), 0), "1" + "0" * 59 + "1" + "0" * 59)
        self.assertEqual(decimal_below((10 ** 60, 1), 0), "1" + "0" * 60)
        self.assertEqual(decimal_below((10 ** 60 - 1, 1), 0), "9" * 60)


if __name__ == "__main__":
    unittest.main()
