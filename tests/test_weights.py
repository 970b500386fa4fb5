"""[22]: exact V and Z(n, FACTS), held against sums over all WORDS and their WALKS."""

import random
import unittest

from tests.helpers import (
    CAP, FIRSTS, ONE, PARITY, leaves_alone, measure_by_table, meets, moved_along, some_facts, some_measures, some_models,
    swept_weights, walks, weight_by_walks, words_of_length,
)
from unwrittenrow.blocks import tree_blocks
from unwrittenrow.models import total_of
from unwrittenrow.weights import shares_of_ends, total_under, weights_of

FAR = 2 ** 200
GREAT = (ONE, (10 ** 6,), (10 ** 6,), ((0, "a", 0, 10 ** 6), (0, "b", 0, 999983)))
MODEL = (CAP, (1, 0), (1, 1), ((0, "a", 0, 3), (0, "b", 1, 1), (1, "a", 0, 2), (1, "b", 1, 1)))
MODELS = (
    some_models(41, 25) + some_models(42, 15, CAP, 3) + some_models(43, 10, FIRSTS, 2) + some_models(44, 6, ONE, 2)
    + [model for at, measure in enumerate(some_measures(45, 20)) for model in some_models(at, 1, measure, 3)]
    + [MODEL, GREAT]
)


def weights_by_words(model, places, facts):
    """Return V of (0, places) by all WORDS and their WALKS."""
    found = {}
    for word in words_of_length("ab", places):
        if meets(model[0], word, facts):
            for p, q, price in walks(model, word):
                stand = (p, q, measure_by_table(model[0], word))
                found[stand] = found.get(stand, 0) + price
    return found


class Weights(unittest.TestCase):
    def check(self, model, facts, block, expected):
        found = leaves_alone(self, weights_of, model, facts, block)
        self.assertEqual(found, expected)
        self.assertEqual(list(found), sorted(found))

    def test_against_all_words(self):
        chance = random.Random(1)
        for model in MODELS:
            for n in (1, 2, 3, 4, 5):
                facts = some_facts(chance, model[0], n, 4)
                self.check(model, facts, (0, n), weights_by_words(model, n, facts))
                self.check(model, (), (0, n), weights_by_words(model, n, ()))

    def test_blocks_of_the_tree(self):
        chance = random.Random(2)
        for model in MODELS[::2] + [MODEL]:
            facts = some_facts(chance, model[0], 7, 5)
            for i, j in tree_blocks(7, facts):
                inner = moved_along([fact for fact in facts if i <= fact[0] and fact[1] <= j], -i)
                self.check(model, facts, (i, j), weights_by_words(model, j - i, inner))

    def test_blocks_that_are_moved_along(self):
        chance = random.Random(3)
        for model in MODELS[::3] + [MODEL]:
            facts = some_facts(chance, model[0], 6, 4)
            expected = weights_by_words(model, 6, facts)
            for far in (1, 5, 1000, FAR):
                beside = ((0, 1, ()),) if far < 1000 else ((0, far, ()), (far, far + 100, (0,)))
                self.check(model, beside + moved_along(facts, far), (far, far + 6), expected)

    def test_facts_on_the_very_block(self):
        for model in MODELS:
            members = tuple(range(len(model[0][0])))
            for n in (1, 3, 4):
                free = weights_of(model, (), (0, n))
                self.check(model, ((0, n, ()),), (0, n), {})
                self.check(model, ((0, n, members),), (0, n), free)
                for m in members:
                    kept = {stand: price for stand, price in free.items() if stand[2] == m}
                    self.check(model, ((0, n, (m,)),), (0, n), kept)
                    self.check(model, ((0, n, (m,)), (0, n + 5, ())), (0, n), kept)

    def test_a_lot_in_it_that_is_empty_or_all(self):
        for model in MODELS:
            members = tuple(range(len(model[0][0])))
            for inner in ((0, 1), (1, 2), (3, 4), (1, 3), (0, 3)):
                self.check(model, (inner + ((),),), (0, 4), {})
                self.check(model, (inner + (members,),), (0, 4), weights_of(model, (), (0, 4)))

    def test_hundreds_of_places_from_left_to_right(self):
        chance = random.Random(4)
        for model in MODELS[::12] + [MODEL]:
            for n in (100, 257):
                facts = some_facts(chance, model[0], n, 5, 0)
                self.check(model, facts, (0, n), swept_weights(model, n, facts))

    def test_three_thousand_places_with_one_state(self):
        self.assertEqual(weights_of(GREAT, (), (0, 3000)), {(0, 0, 0): 1999983 ** 3000})
        self.assertEqual(total_under(GREAT, 3000, ()), 10 ** 12 * 1999983 ** 3000)
        odds = (PARITY, (1,), (1,), ((0, "a", 0, 1), (0, "b", 0, 2)))
        even, odd = (3 ** 3000 + 1) // 2, (3 ** 3000 - 1) // 2
        self.assertEqual(weights_of(odds, (), (0, 3000)), {(0, 0, 0): even, (0, 0, 1): odd})
        self.assertEqual(weights_of(odds, ((0, 3000, (1,)),), (0, 3000)), {(0, 0, 1): odd})
        half = (3 ** 1500 - 1) // 2
        facts = ((0, 1500, (1,)), (1500, 3000, (1,)))
        self.assertEqual(weights_of(odds, facts, (0, 3000)), {(0, 0, 0): half * half})
        self.assertEqual(total_under(odds, 3000, ((2999, 3000, (1,)),)), 2 * 3 ** 2999)

    def test_dicts_are_new(self):
        first = weights_of(MODEL, (), (0, 1))
        first[(0, 0, 0)] = 99
        first[(1, 1, 0)] = 1
        self.assertEqual(weights_of(MODEL, (), (0, 1)), {(0, 0, 0): 3, (0, 1, 1): 1, (1, 0, 0): 2, (1, 1, 1): 1})
        self.assertEqual(weights_of(MODEL, (), (0, 2))[(0, 0, 0)], 9)
        shares = shares_of_ends(MODEL, first)
        self.assertEqual(first[(0, 0, 0)], 99)
        self.assertIsNot(shares, first)
        shares.clear()
        self.assertEqual(len(first), 5)

    def test_what_was_told_before_leaves_nothing_behind(self):
        facts = ((1, 3, (1,)), (2, 3, (1,)))
        first = weights_of(MODEL, facts, (0, 9)), weights_of(MODEL, (), (0, 9))
        for model in MODELS[:9]:
            weights_of(model, ((1, 3, (0,)),), (0, 9))
        self.assertEqual(list(first[0]), sorted(first[0]))
        self.assertEqual((weights_of(MODEL, facts, (0, 9)), weights_of(MODEL, (), (0, 9))), first)
        self.assertNotEqual(first[0], first[1])


class Totals(unittest.TestCase):
    def test_against_all_words(self):
        chance = random.Random(6)
        for model in MODELS:
            for n in range(1, 6):
                facts = some_facts(chance, model[0], n, 4)
                expected = sum(
                    weight_by_walks(model, word) for word in words_of_length("ab", n) if meets(model[0], word, facts)
                )
                self.assertEqual(leaves_alone(self, total_under, model, n, facts), expected)

    def test_without_facts_it_is_z(self):
        for model in MODELS:
            for n in (0, 1, 2, 7, 64, 99):
                self.assertEqual(leaves_alone(self, total_under, model, n, ()), total_of(model, n))
        self.assertEqual(total_under((PARITY, (2, 0, 3), (5, 7, 1), ()), 0, ()), 13)
        self.assertEqual(total_under((PARITY, (2, 0), (0, 7), ()), 0, ()), 0)

    def test_shares_of_ends(self):
        chance = random.Random(7)
        for model in MODELS:
            for n in (1, 4):
                facts = some_facts(chance, model[0], n, 3)
                weights = weights_of(model, facts, (0, n))
                expected = {
                    (p, q, m): model[1][p] * price * model[2][q]
                    for (p, q, m), price in sorted(weights.items()) if model[1][p] * model[2][q] > 0
                }
                for _ in range(3):
                    stands = list(weights)
                    chance.shuffle(stands)
                    mixed = {stand: weights[stand] for stand in stands}
                    found = leaves_alone(self, shares_of_ends, model, mixed)
                    self.assertEqual(found, expected)
                    self.assertEqual(list(found), sorted(found))
                self.assertEqual(sum(expected.values()), total_under(model, n, facts))
        self.assertEqual(shares_of_ends(MODEL, {}), {})
        turned = {(1, 1, 2): 5, (1, 0, 0): 5, (0, 1, 1): 4, (0, 0, 2): 3, (0, 0, 1): 10 ** 900}
        self.assertEqual(
            list(shares_of_ends(MODEL, turned).items()), [((0, 0, 1), 10 ** 900), ((0, 0, 2), 3), ((0, 1, 1), 4)]
        )


if __name__ == "__main__":
    unittest.main()
