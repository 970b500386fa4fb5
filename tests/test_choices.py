"""[5], [6], [7], [26]: CHOICES, held against their inequalities with plain integers."""

import itertools
import random
import unittest

from tests.helpers import leaves_alone
from tests.test_coins import NAMES, SEEDS, plain_coin
from unwrittenrow.choices import (
    chosen, is_shown, made_by, shown_within, times_made, times_none,
)

FAR = 2 ** 200


def plain_made(shares, c, d):
    """Return all indexes whose THING is MADE by a BEGINNING."""
    total = sum(shares)
    bounds = [0] + list(itertools.accumulate(shares))
    return [
        at for at in range(len(shares))
        if bounds[at] * 2 ** d <= c * total and (c + 1) * total <= bounds[at + 1] * 2 ** d
    ]


def plain_shown(numbers, c, d):
    """Return all indexes that a BEGINNING shows; the e are small."""
    low = lambda some: sum(one[0] << one[2] for one in some)
    high = lambda some: sum(one[1] << one[2] for one in some)
    return [
        at for at in range(len(numbers))
        if high(numbers[:at]) * (2 ** d - c) <= c * low(numbers[at:])
        and (c + 1) * high(numbers[at + 1:]) <= (2 ** d - c - 1) * low(numbers[:at + 1])
    ]


def plain_beginning(coins, name, d):
    return sum(plain_coin(coins, name, k) << (d - 1 - k) for k in range(d))


SHARES = [
    (1,), (7,), (10 ** 40,), (1, 1), (5, 4), (1, 2), (3, 1, 4), (1, 1, 1), (1, 2, 4, 8, 16), (16, 8, 4, 2, 1, 1), (1,) * 8,
    (1,) * 40, (10 ** 39 + 7, 3 ** 80), (1, 10 ** 40), (10 ** 40, 1), (2 ** 130, 2 ** 129, 2 ** 129), (1, 10 ** 40, 1),
    tuple([10 ** 39 + k * k for k in range(40)]), (6, 1, 1), (1, 6, 1), (3, 3, 2), (2, 1, 1),
]


class Made(unittest.TestCase):
    def test_each_beginning_of_up_to_six_coins(self):
        for shares in SHARES:
            for d in range(7):
                for c in range(2 ** d):
                    expected = plain_made(shares, c, d)
                    self.assertLessEqual(len(expected), 1)
                    found = leaves_alone(self, made_by, shares, c, d)
                    self.assertEqual(found, expected[0] if expected else None)
                    self.assertEqual(made_by(list(shares), c, d), found)

    def test_what_is_made_stays_made(self):
        for shares in SHARES:
            for d in range(6):
                for c in range(2 ** d):
                    found = made_by(shares, c, d)
                    if found is not None:
                        for more in (1, 2, 7):
                            for tail in (0, 1, 2 ** more - 1):
                                self.assertEqual(made_by(shares, (c << more) + tail, d + more), found)

    def test_by_long_beginnings(self):
        chance = random.Random(1)
        for shares in SHARES:
            for d in (61, 300, 4000):
                for c in [0, 2 ** d - 1] + [chance.randrange(2 ** d) for _ in range(5)]:
                    expected = plain_made(shares, c, d)
                    self.assertEqual(made_by(shares, c, d), expected[0] if expected else None)
                    self.assertLessEqual(len(expected), 1)

    def test_times_against_counting(self):
        for shares in SHARES:
            for d in range(9):
                counts = [0 for _ in shares]
                none = 0
                for c in range(2 ** d):
                    made = plain_made(shares, c, d)
                    none += not made
                    for index in made:
                        counts[index] += 1
                found = [leaves_alone(self, times_made, shares, index, d) for index in range(len(shares))]
                self.assertEqual(found, counts)
                self.assertEqual(leaves_alone(self, times_none, shares, d), none)
                self.assertLess(none, len(shares))
                self.assertEqual(times_none(list(shares), d), none)
                self.assertEqual(times_made(list(shares), 0, d), counts[0])

    def test_times_of_many_coins(self):
        for shares in SHARES:
            total = sum(shares)
            for d in (20, 61, 299, 300):
                ahead = 0
                for index, share in enumerate(shares):
                    first = next(c for c in itertools.count(ahead * 2 ** d // total) if ahead * 2 ** d <= c * total)
                    ahead += share
                    last = ahead * 2 ** d // total
                    self.assertEqual(times_made(shares, index, d), max(0, last - first))
                    # Each comes with just its chance, but for less than two of all BEGINNINGS.
                    self.assertLess(abs(times_made(shares, index, d) * total - share * 2 ** d), 2 * total)
                self.assertLess(times_none(shares, d), len(shares))
                self.assertEqual(times_none(shares, d) + sum(
                    times_made(shares, index, d) for index in range(len(shares))
                ), 2 ** d)

    def test_chosen_is_the_least(self):
        chance = random.Random(2)
        none = 0
        for at in range(400):
            shares = SHARES[at % len(SHARES)]
            name = chance.choice(NAMES)
            told = tuple([(name, k, chance.random() < 0.5) for k in range(chance.choice((0, 3)))])
            coins = (chance.choice(SEEDS), told)
            expected = None
            for d in range(200):
                made = plain_made(shares, plain_beginning(coins, name, d), d)
                if made:
                    expected = (made[0], d)
                    break
            least = expected[1]
            for most in {0, least - 1, least, least + 1, 200} - {-1}:
                found = leaves_alone(self, chosen, shares, coins, name, most)
                self.assertEqual(found, expected if most >= least else None)
                self.assertEqual(chosen(list(shares), coins, name, most), found)
                none += found is None
        self.assertGreater(none, 100)

    def test_coins_that_lie_at_a_border(self):
        # 0, 1, 0, 1 .. is a third, the border of two THINGS.
        coins = (0, tuple([((0, 2), k, k % 2 == 1) for k in range(60)]))
        self.assertIsNone(chosen((1, 2), coins, (0, 2), 60))
        self.assertIsNotNone(chosen((1, 2), coins, (0, 2), 80))
        # All 1 comes as near to the end as one wishes, and makes the last one.
        coins = (0, tuple([((), k, True) for k in range(60)]))
        self.assertEqual(chosen((2 ** 30 - 1, 1), coins, (), 60), (1, 30))
        self.assertEqual(chosen((1, 1), coins, (), 60), (1, 1))
        self.assertIsNone(chosen((2 ** 30 - 1, 1), coins, (), 29))


def some_numbers(chance, many=None):
    """Return ENCLOSURES, exact ones and wide ones, of unlike e."""
    found = []
    for _ in range(many or chance.randint(1, 6)):
        low = chance.choice((0, 1, 2, chance.randint(1, 20), chance.randrange(10 ** 12)))
        high = low + chance.choice((0, 0, 0, 1, chance.randint(0, 9)))
        found.append((low, high, chance.choice((0, 0, 1, 3, 10))))
    return found


class Shown(unittest.TestCase):
    def test_by_the_inequalities(self):
        chance = random.Random(3)
        met = {0: 0, 1: 0}
        for _ in range(250):
            numbers = some_numbers(chance)
            for d in range(6):
                for c in range(2 ** d):
                    expected = plain_shown(numbers, c, d)
                    met[min(1, len(expected))] += 1
                    far = tuple([(low, high, e + FAR) for low, high, e in numbers])
                    for index in range(len(numbers)):
                        found = leaves_alone(self, is_shown, numbers, index, c, d)
                        self.assertIs(found, index in expected, (numbers, index, c, d))
                        self.assertIs(is_shown(far, index, c, d), found)
        self.assertGreater(min(met.values()), 1000)

    def test_two_are_shown_just_if_no_shares_are_above_nought(self):
        for numbers in itertools.product([(0, 0, 0), (0, 0, 5), (0, 1, 0), (1, 1, 0), (1, 2, 1)], repeat=3):
            for d in range(3):
                for c in range(2 ** d):
                    many = [index for index in range(3) if is_shown(numbers, index, c, d)]
                    self.assertEqual(many, plain_shown(numbers, c, d))
                    # Shares from 0 on that are held make some THING, so two can only be shown if all are 0.
                    self.assertTrue(len(many) < 2 or not any(low for low, _, _ in numbers))

    def test_all_nought(self):
        for numbers in ([(0, 0, 0)], [(0, 0, FAR), (0, 0, 3)], [(0, 0, 0)] * 5):
            for index in range(len(numbers)):
                self.assertIs(is_shown(numbers, index, 0, 0), True)
                self.assertIs(is_shown(numbers, index, 3, 2), True)
            self.assertEqual(shown_within(numbers, (0, ()), (), 0), (0, 0))

    def test_exact_ones_show_what_is_made(self):
        for shares in SHARES:
            numbers = [(share, share, 0) for share in shares]
            far = [(share << 3, share << 3, FAR) for share in shares]
            for d in range(5):
                for c in range(2 ** d):
                    made = made_by(shares, c, d)
                    for index in range(len(shares)):
                        self.assertIs(is_shown(numbers, index, c, d), index == made)
                    if made is not None:
                        self.assertIs(is_shown(far, made, c, d), True)

    def test_what_is_shown_is_made_for_all_shares_that_are_held(self):
        chance = random.Random(4)
        met = 0
        for _ in range(300):
            numbers = some_numbers(chance)
            for d in (0, 1, 3, 5):
                c = chance.randrange(2 ** d)
                for index in range(len(numbers)):
                    if is_shown(numbers, index, c, d):
                        for _ in range(6):
                            shares = [chance.choice((low << e, high << e, chance.randint(low << e, high << e)))
                                      for low, high, e in numbers]
                            if min(shares) > 0:
                                met += 1
                                self.assertEqual(made_by(shares, c, d), index)
        self.assertGreater(met, 300)

    def test_what_a_wide_one_shows_a_narrow_one_within_shows(self):
        chance = random.Random(5)
        met = 0
        for _ in range(400):
            wide = some_numbers(chance)
            narrow = []
            for low, high, e in wide:
                at = sorted([chance.randint(low << e, high << e) for _ in range(2)])
                narrow.append((at[0], at[1], 0))
            for d in (0, 1, 2, 4, 6):
                c = chance.randrange(2 ** d)
                for index in range(len(wide)):
                    if is_shown(wide, index, c, d):
                        met += 1
                        self.assertIs(is_shown(narrow, index, c, d), True)
                        for tail in (0, 5, 7):
                            self.assertIs(is_shown(wide, index, 8 * c + tail, d + 3), True)
        self.assertGreater(met, 200)

    def test_e_as_great_as_2_to_200(self):
        numbers = [(1, 1, FAR), (3, 4, 0), (1, 1, FAR)]
        self.assertEqual([is_shown(numbers, index, 0, 1) for index in range(3)], [False, False, False])
        self.assertEqual([is_shown(numbers, index, 1, 2) for index in range(3)], [False, False, False])
        self.assertEqual([is_shown(numbers, index, 0, 2) for index in range(3)], [True, False, False])
        self.assertEqual([is_shown(numbers, index, 3, 2) for index in range(3)], [False, False, True])
        exact = [(1, 1, FAR), (1, 1, FAR), (0, 0, 2 ** 201)]
        self.assertEqual([is_shown(exact, index, 0, 1) for index in range(3)], [True, False, False])
        self.assertEqual([is_shown(exact, index, 1, 1) for index in range(3)], [False, True, False])
        over = [(1, 1, FAR), (1, 1, 2 ** 201)]
        self.assertEqual([is_shown(over, 1, c, 3) for c in range(8)], [False] + [True] * 7)
        self.assertEqual([is_shown(over, 0, c, 3) for c in range(8)], [False] * 8)
        least = [(1, 1, 0), (1, 1, FAR)]
        self.assertIs(is_shown(least, 0, 0, 4000), False)
        self.assertIs(is_shown(least, 1, 1, 4000), True)

    def test_the_least_d_then_the_least_index(self):
        chance = random.Random(6)
        none = several = 0
        for at in range(500):
            numbers = some_numbers(chance)
            if at % 3 == 0:
                numbers = [(low, low, e) for low, _, e in numbers]
            if at % 10 == 0:
                numbers = [(0, 0, e) for _, _, e in numbers]
            name, coins = chance.choice(NAMES), (chance.choice(SEEDS), ())
            expected = None
            for d in range(40):
                shown = plain_shown(numbers, plain_beginning(coins, name, d), d)
                several += len(shown) > 1
                if shown:
                    expected = (shown[0], d)
                    break
            for most in (0, 1, 2, 5, 39):
                found = leaves_alone(self, shown_within, numbers, coins, name, most)
                self.assertEqual(found, expected if expected and expected[1] <= most else None)
                far = tuple([(low, high, e + FAR) for low, high, e in numbers])
                self.assertEqual(shown_within(far, coins, name, most), found)
                none += found is None
            if expected:
                self.assertEqual(shown_within(numbers, coins, name, expected[1]), expected)
                if expected[1]:
                    self.assertIsNone(shown_within(numbers, coins, name, expected[1] - 1))
        self.assertGreater(none, 100)
        self.assertGreater(several, 10)

    def test_many_things(self):
        chance = random.Random(7)
        numbers = some_numbers(chance, 288)
        exact = [(low + 1, low + 1, e) for low, _, e in numbers]
        shares = [low << e for low, _, e in exact]
        for name in NAMES:
            self.assertEqual(shown_within(exact, (3, ()), name, 400), chosen(shares, (3, ()), name, 400))
        wide = [(low, 3 * low + 3, e) for low, _, e in numbers]
        self.assertIsNone(shown_within(wide, (3, (((), 0, True), ((), 1, False), ((), 2, False))), (), 400))

    def test_the_same_again(self):
        numbers = [(4, 6, 0), (4, 5, 0)]
        first = shown_within(numbers, (7, ()), (), 30)
        numbers[0] = (1, 1, 0)
        shown_within(numbers, (7, ()), (), 30)
        numbers[0] = (4, 6, 0)
        self.assertEqual(shown_within(numbers, (7, ()), (), 30), first)


if __name__ == "__main__":
    unittest.main()
