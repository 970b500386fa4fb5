"""[2], [25]: COINS and the SPRING, held against the document's own rule."""

import random
import unittest

from tests.helpers import leaves_alone
from unwrittenrow.coins import beginning, coin, spring, with_told
from unwrittenrow.forms import are_coins

FAR = 2 ** 200
P = 2 ** 61 - 1
NAMES = [
    (), (0, 1), (0, 2), (1, 2), (5, 6), (0, 1000), (7, 40), (0, FAR), (FAR - 1, FAR), (2 ** 199, FAR), (3 ** 100, 3 ** 101),
    (P - 1, P), (P - 2, 2 * P - 1), (0, P),
]
SEEDS = [0, 1, 7, 1000, P - 2, P - 1, P, P + 1, 2 * P, 10 ** 39, 10 ** 40 - 1, 5 ** 50]


def plain_spring(seed, name, k):
    if name == ():
        row = [0, 0, k, 1, 2]
    else:
        row = [name[0] + 1, name[1] + 1, k, 1, 2]
    x = seed % P
    for a in row:
        x = (pow(x + a + 1, 2) * 48271 + 2147483629) % P
    return x // 2 ** 30 % 2 == 1


def plain_coin(coins, name, k):
    for other, at, truth in coins[1]:
        if other == name and at == k:
            return truth
    return plain_spring(coins[0], name, k)


def some_coins(chance, names=NAMES, most=12):
    told = {(chance.choice(names), chance.choice((0, 1, 2, 3, 9, 50))): chance.random() < 0.5
            for _ in range(chance.randint(0, most))}
    return (chance.choice(SEEDS), tuple([key + (told[key],) for key in sorted(told)]))


class Springs(unittest.TestCase):
    def test_by_the_rule(self):
        for seed in SEEDS:
            for name in NAMES:
                for k in list(range(91)) + [4000, 10 ** 20]:
                    found = leaves_alone(self, spring, seed, name, k)
                    self.assertIs(found, plain_spring(seed, name, k))

    def test_each_part_of_a_name_counts(self):
        rows = {}
        for name in NAMES + [(i, j) for i in range(9) for j in range(i + 1, 10)]:
            rows[tuple([spring(3, name, k) for k in range(80)])] = name
        self.assertEqual(len(rows), len(set(NAMES) | {(i, j) for i in range(9) for j in range(i + 1, 10)}))

    def test_seeds_alike_modulo_p_are_alike(self):
        for name in NAMES:
            self.assertEqual([spring(5, name, k) for k in range(60)], [spring(5 + 3 * P, name, k) for k in range(60)])


class Told(unittest.TestCase):
    def test_coins(self):
        chance = random.Random(1)
        for _ in range(300):
            coins = some_coins(chance)
            self.assertTrue(are_coins(coins))
            for name in [chance.choice(NAMES) for _ in range(3)] + [one[0] for one in coins[1]]:
                for k in (0, 1, 2, 3, 4, 9, 50, 90):
                    self.assertIs(leaves_alone(self, coin, coins, name, k), plain_coin(coins, name, k))

    def test_beginnings(self):
        chance = random.Random(2)
        for at in range(60):
            coins = some_coins(chance)
            name = chance.choice([one[0] for one in coins[1]] + NAMES)
            for d in (0, 1, 2, 3, 10, 61, 90) + ((4000,) if at < 3 else ()):
                digits = "".join("1" if plain_coin(coins, name, k) else "0" for k in range(d))
                found = leaves_alone(self, beginning, coins, name, d)
                self.assertEqual(bin(found)[2:].zfill(d) if d else "", digits)
                self.assertIs(type(found), int)

    def test_a_beginning_of_told_coins(self):
        coins = (9, tuple([((0, 4), k, k in (0, 2, 3)) for k in range(5)]))
        self.assertEqual([beginning(coins, (0, 4), d) for d in range(6)][:6], [0, 1, 2, 5, 11, 22])
        self.assertEqual(beginning(coins, (0, 5), 5), beginning((9, ()), (0, 5), 5))

    def test_with_told(self):
        chance = random.Random(3)
        for _ in range(300):
            coins = some_coins(chance)
            name = chance.choice([one[0] for one in coins[1]] + NAMES)
            truths = tuple([chance.random() < 0.5 for _ in range(chance.choice((0, 1, 2, 5, 60)))])
            found = leaves_alone(self, with_told, coins, name, truths)
            self.assertTrue(are_coins(found))
            self.assertEqual(found[0], coins[0])
            self.assertEqual([one for one in found[1] if one[0] != name], [one for one in coins[1] if one[0] != name])
            self.assertEqual(
                [one for one in found[1] if one[0] == name], [(name, k, truth) for k, truth in enumerate(truths)]
            )
            for k in range(60):
                expected = truths[k] if k < len(truths) else plain_spring(coins[0], name, k)
                self.assertIs(coin(found, name, k), expected)

    def test_with_told_more_fewer_and_none(self):
        told = (((), 0, True), ((), 7, False), ((0, 2), 1, True), ((1, 2), 0, False))
        self.assertEqual(with_told((4, told), (), ()), (4, told[2:]))
        self.assertEqual(with_told((4, told), (0, 2), ()), (4, told[:2] + told[3:]))
        self.assertEqual(with_told((4, told), (), (False,)), (4, (((), 0, False),) + told[2:]))
        self.assertEqual(
            with_told((4, told), (0, 2), (False, True, True)),
            (4, told[:2] + (((0, 2), 0, False), ((0, 2), 1, True), ((0, 2), 2, True)) + told[3:]),
        )
        self.assertEqual(with_told((4, told), (0, 1), (True,)), (4, told[:2] + (((0, 1), 0, True),) + told[2:]))
        self.assertEqual(with_told((4, ()), (0, 1), ()), (4, ()))
        self.assertEqual(with_told((4, told), (9, 10), ()), (4, told))

    def test_the_same_again(self):
        coins = (7, (((), 0, True),))
        first = [coin(coins, (), 3), beginning(coins, (0, 9), 50), spring(7, (), 0)]
        with_told(coins, (), (False, False))
        self.assertEqual([coin(coins, (), 3), beginning(coins, (0, 9), 50), spring(7, (), 0)], first)
        self.assertIs(coin(coins, (), 0), True)


if __name__ == "__main__":
    unittest.main()
