"""[23]: PILES and ENCLOSURES."""

import random
import unittest

from tests.helpers import leaves_alone
from unwrittenrow.enclosures import (
    around, compared, exact_one, holds, lies_in, product_of, sum_of, trimmed,
)
from unwrittenrow.forms import is_enclosure

FAR = 2 ** 200
# Wide enough that nothing in these tests reaches from one end to the other, and can be written.
WIDE = 4000


def value(pile):
    return sum(c << e for c, e in pile)


def sign(number):
    return (number > 0) - (number < 0)


def plain_around(low, high, bits):
    """Return around of two integers, by seeking e from where it is surely too small."""
    e = max(0, high.bit_length() - bits - 2)
    while -(-high // 2 ** e) >= 2 ** bits:
        e += 1
    return (low // 2 ** e, -(-high // 2 ** e), e)


def some_pile(chance, most=6, powers=(0, 1, 2, 3, 5, 8, 60, 200)):
    pile = []
    for _ in range(chance.randint(0, most)):
        c = chance.choice((0, 1, chance.randrange(100), chance.randrange(10 ** 70), 2 ** chance.randrange(200)))
        pile.append((c, chance.choice(powers)))
    return pile


def spread(pile, where):
    """Return a PILE, the e of which are (end, e), with each end at its place."""
    return [(c, where[end] + e) for c, (end, e) in pile]


def same_number(chance, pile):
    """Return a PILE otherwise written that stands for as much."""
    out = []
    for c, e in pile:
        if e > 0 and chance.random() < 0.5:
            out.extend([(c, e - 1), (c, e - 1)])
        elif c > 0 and chance.random() < 0.5:
            out.extend([(c - 1, e), (1, e), (0, e + 7)])
        else:
            out.append((c, e))
    chance.shuffle(out)
    return out


class Comparing(unittest.TestCase):
    def check(self, one, other, expected):
        for first, second, told in ((one, other, expected), (other, one, -expected)):
            found = leaves_alone(self, compared, first, second)
            self.assertEqual(found, told, (first, second))
            self.assertIs(type(found), int)
            self.assertEqual(compared(tuple(first), tuple(second)), told)

    def test_numbers_that_can_be_written(self):
        chance = random.Random(1)
        counts = {-1: 0, 0: 0, 1: 0}
        for _ in range(1500):
            one = some_pile(chance)
            other = chance.choice((some_pile(chance), same_number(chance, one)))
            if chance.random() < 0.3:
                other = other + [(1, chance.choice((0, 3)))]
            expected = sign(value(one) - value(other))
            counts[expected] += 1
            self.check(one, other, expected)
            far = [(c, e + FAR) for c, e in one], [(c, e + FAR) for c, e in other]
            self.check(*far, expected)
        self.assertGreater(min(counts.values()), 100)

    def test_numbers_with_three_ends(self):
        chance = random.Random(2)
        counts = {-1: 0, 0: 0, 1: 0}
        for _ in range(1500):
            one = [(c, (end, e)) for end in range(3) for c, e in some_pile(chance, 3)]
            other = chance.choice((list(one), one[:-1], one[1:], one + [(1, (0, 0))], one + [(3, (1, 2))]))
            chance.shuffle(other)
            expected = sign(value(spread(one, (0, WIDE, 2 * WIDE))) - value(spread(other, (0, WIDE, 2 * WIDE))))
            counts[expected] += 1
            for where in ((0, WIDE, 2 * WIDE), (0, FAR, FAR + WIDE), (5, FAR, 2 ** 201), (FAR, 2 ** 300, 10 ** 199)):
                self.check(spread(one, where), spread(other, where), expected)
        self.assertGreater(min(counts.values()), 50)

    def test_by_one_far_below(self):
        for e in (1, 2, 63, 64, 65, 199, 1000, FAR):
            many = min(e, 3000)
            # 2 ** e as the sum of its halves, down to the very last.
            halves = [(1, e - k) for k in range(1, many + 1)]
            last = (1, e - many)
            self.check([(1, e)], halves + [last], 0)
            self.check([(1, e)], halves, 1)
            self.check([(1, e)], halves + [last, (1, 0)], -1)
            self.check([(1, e), (1, 0)], halves + [last], 1)
            if e > many:
                self.check([(1, e)], halves + [last, last], -1)

    def test_many_small_ones_against_a_great_one(self):
        ones = [(1, FAR)] * 1024
        self.check(ones, [(1, FAR + 10)], 0)
        self.check(ones[1:], [(1, FAR + 10)], -1)
        self.check(ones + [(1, 0)], [(1, FAR + 10)], 1)
        self.check([(2 ** 1000, 0)], [(1, 1000)], 0)
        self.check([(2 ** 1000, 0)], [(1, 1001)], -1)
        self.check([(2 ** 1000 + 1, 0)], [(1, 1000)], 1)
        self.check([(10 ** 69, FAR)], [(1, FAR + 229)], 1)
        self.check([(10 ** 69, FAR)], [(1, FAR + 230)], -1)

    def test_empty_ones_and_noughts(self):
        for pile in ([], [(0, 0)], [(0, FAR)], [(0, 9), (0, 2 ** 300)]):
            for other in ([], [(0, 3)], [(0, FAR)]):
                self.check(pile, other, 0)
            self.check(pile, [(1, 0)], -1)
            self.check(pile, [(1, FAR), (0, 2 ** 300)], -1)
            self.check(pile + [(1, 0)], [(0, FAR), (1, 0)], 0)
            self.check(pile + [(2, 0)], [(1, FAR)], -1)


class Around(unittest.TestCase):
    def check(self, lows, highs, bits, expected):
        found = leaves_alone(self, around, lows, highs, bits)
        self.assertEqual(found, expected, (lows, highs, bits))
        self.assertTrue(is_enclosure(found))
        self.assertEqual(around(tuple(lows[::-1]), tuple(highs[::-1]), bits), expected)

    def test_numbers_that_can_be_written(self):
        chance = random.Random(3)
        for at in range(1500):
            bits = chance.choice((1, 2, 3, 8, 64, 300, chance.randint(1, 300)))
            one, other = some_pile(chance), some_pile(chance)
            if at % 3 == 0:
                other = same_number(chance, one) + other[:1]
            if value(one) > value(other):
                one, other = other, one
            expected = plain_around(value(one), value(other), bits)
            self.check(one, other, bits, expected)
            self.check(same_number(chance, one), same_number(chance, other), bits, expected)

    def test_just_at_a_power_of_two_and_one_beside_it(self):
        for bits in range(1, 301):
            full = 2 ** bits
            self.check([(full - 1, 0)], [(full - 1, 0)], bits, (full - 1, full - 1, 0))
            self.check([(full, 0)], [(full, 0)], bits, (full // 2, full // 2, 1))
            self.check([(full + 1, 0)], [(full + 1, 0)], bits, plain_around(full + 1, full + 1, bits))
            self.check([(1, 0)], [(full, 0)], bits, (0, full // 2, 1))
            for far in (1, 64, 1000):
                # The same with a power of two more, and with one below all that is shown.
                self.check([(full - 1, far)], [(full - 1, far)], bits, (full - 1, full - 1, far))
                self.check(
                    [(full - 1, far)], [(full - 1, far), (1, 0)], bits,
                    plain_around((full - 1) << far, ((full - 1) << far) + 1, bits),
                )
                self.check([(full - 1, far), (1, 0)], [(full, far)], bits, (full // 2 - 1, full // 2, far + 1))
            self.check([(full - 1, FAR)], [(full - 1, FAR)], bits, (full - 1, full - 1, FAR))
            self.check([(full - 1, FAR)], [(full - 1, FAR), (1, 0)], bits, ((full - 1) // 2, full // 2, FAR + 1))

    def test_numbers_with_two_ends(self):
        chance = random.Random(4)
        for _ in range(600):
            bits = chance.choice((1, 2, 5, 40, 200))
            one = [(c, (end, e)) for end in range(2) for c, e in some_pile(chance, 3)]
            other = one + [(c, (end, e)) for end in range(2) for c, e in some_pile(chance, 1)]
            chance.shuffle(other)
            low, high = (value(spread(pile, (0, WIDE))) for pile in (one, other))
            expected = plain_around(low, high, bits)
            self.check(spread(one, (0, WIDE)), spread(other, (0, WIDE)), bits, expected)
            for place in (FAR, 10 ** 150):
                moved = expected
                if expected[2] > WIDE // 2:
                    moved = expected[:2] + (expected[2] - WIDE + place,)
                self.check(spread(one, (0, place)), spread(other, (0, place)), bits, moved)

    def test_low_far_below_high(self):
        self.check([], [(3, FAR)], 2, (0, 3, FAR))
        self.check([], [(3, FAR)], 1, (0, 1, FAR + 2))
        self.check([(10 ** 70, 0)], [(3, FAR)], 5, (0, 24, FAR - 3))
        self.check([(1, FAR - 3)], [(3, FAR)], 5, (1, 24, FAR - 3))
        self.check([], [], 7, (0, 0, 0))
        self.check([(0, FAR)], [(0, 3), (0, FAR)], 1, (0, 0, 0))
        self.check([(0, FAR)], [(1, 0), (0, FAR)], 1, (0, 1, 0))

    def test_it_hangs_on_what_piles_stand_for_alone(self):
        self.assertEqual(around([(4, 0)], [(1, 3), (8, 0)], 4), around([(1, 2)], [(1, 4)], 4))
        self.assertEqual(around([(1, FAR)], [(2, FAR)], 4), around([(1, FAR - 1)] * 2, [(1, FAR + 1)], 4))


class Enclosures(unittest.TestCase):
    def some(self, chance, many):
        found = []
        for _ in range(many):
            low = chance.choice((0, 1, chance.randrange(10 ** 9), chance.randrange(10 ** 70)))
            high = low + chance.choice((0, 0, 1, chance.randrange(10 ** 5)))
            found.append((low, high, chance.choice((0, 1, 3, 70))))
        return found

    def test_sums_of_none_of_one_of_many(self):
        chance = random.Random(5)
        for many in [0, 1, 2, 3, 10, 60] * 20:
            bits = chance.choice((1, 2, 8, 64, 300))
            numbers = self.some(chance, many)
            low, high = (sum(one[at] << one[2] for one in numbers) for at in (0, 1))
            expected = plain_around(low, high, bits)
            self.assertEqual(leaves_alone(self, sum_of, numbers, bits), expected)
            self.assertEqual(sum_of(tuple(numbers[::-1]), bits), expected)
            far = [(one, other, e + FAR) for one, other, e in numbers]
            found = sum_of(far, bits)
            if high:
                base = plain_around(low << 2000, high << 2000, bits)
                self.assertEqual(found, base[:2] + (base[2] - 2000 + FAR,))
            else:
                self.assertEqual(found, (0, 0, 0))
            for one in numbers[:3]:
                self.assertEqual(leaves_alone(self, trimmed, one, bits), sum_of([one], bits))
                self.assertTrue(lies_in(one, trimmed(one, bits)))

    def test_trimmed(self):
        self.assertEqual(trimmed((5, 9, 3), 300), (40, 72, 0))
        self.assertEqual(trimmed((5, 9, 3), 4), (5, 9, 3))
        self.assertEqual(trimmed((5, 9, 3), 3), (2, 5, 4))
        self.assertEqual(trimmed((0, 0, FAR), 3), (0, 0, 0))
        self.assertEqual(trimmed((1, 1, FAR), 3), (4, 4, FAR - 2))
        self.assertEqual(trimmed((16, 16, FAR), 3), (4, 4, FAR + 2))

    def test_products_and_exact_ones(self):
        chance = random.Random(6)
        for one, other in zip(self.some(chance, 100), self.some(chance, 100)):
            found = leaves_alone(self, product_of, one, other)
            self.assertEqual(found, (one[0] * other[0], one[1] * other[1], one[2] + other[2]))
        self.assertEqual(product_of((2, 3, FAR), (5, 7, FAR)), (10, 21, 2 ** 201))
        self.assertEqual(product_of((0, 3, 4), (0, 0, 9)), (0, 0, 13))
        for x in (0, 1, 10 ** 60):
            self.assertEqual(leaves_alone(self, exact_one, x), (x, x, 0))

    def test_holds_at_both_ends(self):
        for low, high, e in ((0, 0, 0), (5, 5, 0), (3, 9, 0), (3, 9, 2), (0, 1, 100), (10 ** 40, 10 ** 41, 7), (2, 2, 9)):
            for x in {(end << e) + beside for end in (low, high) for beside in (-1, 0, 1)}:
                if x >= 0:
                    self.assertIs(leaves_alone(self, holds, (low, high, e), x), low << e <= x <= high << e)
        for x in (0, 1, 10 ** 60):
            self.assertIs(holds((0, 1, FAR), x), True)
            self.assertIs(holds((1, 2, FAR), x), False)
            self.assertIs(holds((0, 0, FAR), x), x == 0)

    def test_lies_in_at_both_ends(self):
        chance = random.Random(7)
        told = {True: 0, False: 0}
        for _ in range(600):
            one, other = [
                (low, low + chance.randint(0, 6), e)
                for low, e in ((chance.randint(0, 12), chance.randint(0, 3)) for _ in range(2))
            ]
            expected = other[0] << other[2] <= one[0] << one[2] and one[1] << one[2] <= other[1] << other[2]
            told[expected] += 1
            self.assertIs(leaves_alone(self, lies_in, one, other), expected)
            far = [(low, high, e + FAR) for low, high, e in (one, other)]
            self.assertIs(lies_in(*far), expected)
        self.assertGreater(min(told.values()), 40)
        self.assertIs(lies_in((1, 1, FAR), (2, 2, FAR - 1)), True)
        self.assertIs(lies_in((1, 1, FAR), (0, 1, FAR)), True)
        self.assertIs(lies_in((0, 1, FAR), (1, 1, FAR)), False)
        self.assertIs(lies_in((5, 7, 0), (0, 1, FAR)), True)
        self.assertIs(lies_in((0, 1, FAR), (0, 7, 0)), False)
        self.assertIs(lies_in((0, 0, FAR), (0, 7, 0)), True)


if __name__ == "__main__":
    unittest.main()
