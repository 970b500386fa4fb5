"""[21]: BLOCKS and their TREE, held against the definitions told in other words."""

import itertools
import random
import unittest

from tests.helpers import CAP, cross, leaves_alone, meets, moved_along, places_in, some_facts, words_of_length
from unwrittenrow.blocks import (
    are_crossing, facts_in, halves_of, is_in_tree, key_of, keys_within, lot_at, middle_of,
    tree_blocks, way_to, with_fact,
)
from unwrittenrow.errors import Crossing
from unwrittenrow.forms import are_facts

FAR = 2 ** 200
SHAPES = [
    [], [(0, 1)], [(3, 4)], [(0, 2), (2, 4)], [(1, 4), (2, 3)], [(0, 3), (0, 5), (1, 2)], [(2, 7), (3, 7), (6, 7)],
    [(0, 9), (1, 8), (2, 7), (3, 6), (4, 5)], [(1, 3), (3, 5), (5, 9), (10, 20)], [(0, 20), (0, 10), (10, 20)],
    [(5, 30), (6, 8), (9, 12), (28, 30), (33, 39)], [(0, 1), (1, 2), (2, 3), (3, 4), (38, 39), (39, 40)],
]


def facts_of(blocks):
    return tuple(sorted([(i, j, (1, 2)) for i, j in blocks]))


def middle_by_words(facts, block):
    """Return the MIDDLE as [2] tells it."""
    i, j = block
    inner = [fact[:2] for fact in facts if places_in(fact) < places_in(block)]
    if inner:
        a = min(one[0] for one in inner)
        b = max(one[1] for one in inner if one[0] == a)
        return b if a == i else a
    e = 0
    while 2 ** (e + 1) < j - i:
        e += 1
    return i + 2 ** e


def tree_by_words(facts, block):
    if block[1] - block[0] == 1:
        return [block]
    middle = middle_by_words(facts, block)
    return [block] + tree_by_words(facts, (block[0], middle)) + tree_by_words(facts, (middle, block[1]))


def cases():
    """Yield n from 1 to 40 with FACTS for it."""
    chance = random.Random(21)
    for n in range(1, 41):
        found = {facts_of([one for one in shape if one[1] <= n]) for shape in SHAPES}
        found.add(facts_of([(0, n)]))
        found.add(facts_of({(0, n), (n // 2, n), (n - 1, n)}))
        found.update([some_facts(chance, CAP, n, 8) for _ in range(3)])
        for facts in sorted(found):
            yield n, facts


class TheTree(unittest.TestCase):
    def test_trees_of_one_to_forty_places(self):
        for n, facts in cases():
            self.assertTrue(are_facts(CAP, n, facts))
            expected = tree_by_words(facts, (0, n))
            with self.subTest(n=n, facts=facts):
                self.assertEqual(leaves_alone(self, tree_blocks, n, facts), expected)
                for block in expected:
                    if block[1] - block[0] > 1:
                        middle = leaves_alone(self, middle_of, facts, block)
                        self.assertEqual(middle, middle_by_words(facts, block))
                        self.assertEqual(
                            leaves_alone(self, halves_of, facts, block), ((block[0], middle), (middle, block[1]))
                        )
                for x in range(n):
                    self.assertEqual(
                        leaves_alone(self, way_to, n, facts, x), [one for one in expected if one[0] <= x < one[1]]
                    )
                for block in itertools.combinations(range(n + 1), 2):
                    self.assertIs(is_in_tree(n, facts, block), block in expected)

    def test_each_fact_is_a_block_and_none_is_crossed(self):
        for n, facts in cases():
            tree = tree_blocks(n, facts)
            self.assertEqual(len(set(tree)), 2 * n - 1)
            for fact in facts:
                self.assertIn(fact[:2], tree)
                self.assertIs(is_in_tree(n, facts, fact[:2]), True)
                self.assertFalse([block for block in tree if cross(block, fact)])

    def test_the_middle_of_other_blocks_than_those_of_the_tree(self):
        for n, facts in cases():
            for block in itertools.combinations(range(min(n, 12) + 1), 2):
                if block[1] - block[0] > 1 and not any(cross(block, fact) for fact in facts):
                    self.assertEqual(middle_of(facts, block), middle_by_words(facts, block))

    def test_the_middle_at_powers_of_two(self):
        for e in range(0, 200):
            for i in (0, 5, FAR):
                self.assertEqual(middle_of((), (i, i + 2 * 2 ** e)), i + 2 ** e)
                self.assertEqual(middle_of((), (i, i + 2 * 2 ** e + 1)), i + 2 * 2 ** e)
                if e > 0:
                    self.assertEqual(middle_of((), (i, i + 2 * 2 ** e - 1)), i + 2 ** e)

    def test_two_thousand_places(self):
        for facts in ((), facts_of([(0, 2000), (3, 1990), (3, 5), (700, 701), (800, 1100), (1989, 1990)])):
            tree = tree_blocks(2000, facts)
            self.assertEqual(len(tree), 3999)
            self.assertEqual([block for block in tree if block[1] - block[0] == 1], [(x, x + 1) for x in range(2000)])
            self.assertEqual(tree, tree_by_words(facts, (0, 2000)))
            tree.clear()
            self.assertEqual(len(tree_blocks(2000, facts)), 3999)

    def test_a_row_of_one_place(self):
        for facts in ((), ((0, 1, ()),)):
            self.assertEqual(tree_blocks(1, facts), [(0, 1)])
            self.assertEqual(way_to(1, facts, 0), [(0, 1)])
            self.assertIs(is_in_tree(1, facts, (0, 1)), True)


class FarTrees(unittest.TestCase):
    def ways(self):
        near = [(0, 3), (1, 3), (5, 9), (6, 7)]
        for n in (FAR, FAR - 1, FAR // 2 + 1, 10 ** 60, 3 ** 100, 2 ** 61 - 1):
            ends = [(n - 12, n), (n - 12, n - 4), (n - 5, n - 4), (n - 1, n)]
            for blocks in ([], near, ends, near + ends, near + ends[1:] + [(4, n - 2)] if n != FAR else near + [(0, n)]):
                blocks = [one for one in blocks if not any(self.crossed(one, other) for other in blocks)]
                yield n, facts_of(blocks)

    def crossed(self, one, other):
        return one[0] < other[0] < one[1] < other[1]

    def test_ways_and_facts(self):
        for n, facts in self.ways():
            for x in (0, 1, 2, 5, 6, 8, n // 3, n // 2 - 1, n // 2, n - 13, n - 12, n - 5, n - 2, n - 1):
                way = leaves_alone(self, way_to, n, facts, x)
                self.assertEqual([way[0], way[-1]], [(0, n), (x, x + 1)])
                self.assertLess(len(way), 230)
                for block, half in zip(way, way[1:]):
                    halves = halves_of(facts, block)
                    self.assertIn(half, halves)
                    self.assertTrue(half[0] <= x < half[1])
                    self.assertEqual([halves[0][0], halves[0][1], halves[1][1]], [block[0], halves[1][0], block[1]])
                for block in way[x % 20::20]:
                    self.assertIs(is_in_tree(n, facts, block), True)
                    longer = (block[0], block[1] + 1)
                    self.assertIs(is_in_tree(n, facts, longer), longer in way_to(n, facts, block[0]))
            for fact in facts:
                self.assertIs(leaves_alone(self, is_in_tree, n, facts, fact[:2]), True)
            self.assertIs(is_in_tree(n, facts, (1, n)), (1, n) in way_to(n, facts, 1))
            self.assertIs(is_in_tree(n, facts, (3, 2 ** 70 + 1)), False)

    def test_parts_of_powers_of_two(self):
        self.assertEqual(way_to(FAR, (), 0), [(0, 2 ** e) for e in range(200, -1, -1)])
        self.assertEqual(way_to(FAR + 1, (), FAR), [(0, FAR + 1), (FAR, FAR + 1)])
        self.assertIs(is_in_tree(FAR, (), (2 ** 199, 2 ** 199 + 2 ** 198)), True)
        self.assertIs(is_in_tree(FAR, (), (2 ** 198, 2 ** 199 + 2 ** 198)), False)

    def test_a_tree_moved_along_is_the_same(self):
        facts = facts_of([(1, 4), (2, 3), (8, 20), (8, 9)])
        far = moved_along(facts, FAR)
        for block in tree_blocks(23, facts):
            if block[1] - block[0] > 1:
                there = (block[0] + FAR, block[1] + FAR)
                self.assertEqual(middle_of(far, there), middle_of(facts, block) + FAR)


class Facts(unittest.TestCase):
    def test_facts_in_and_lot_at(self):
        for n, facts in cases():
            if n > 14:
                break
            for block in itertools.combinations(range(n + 1), 2):
                inner = tuple([fact for fact in facts if places_in(fact) <= places_in(block)])
                self.assertEqual(leaves_alone(self, facts_in, facts, block), inner)
                lots = [fact[2] for fact in facts if fact[:2] == block]
                self.assertEqual(leaves_alone(self, lot_at, facts, block), lots[0] if lots else None)

    def test_lots_of_blocks_beside_one_another(self):
        facts = ((0, 4, ()), (0, 9, (1,)), (4, 9, (0, 2)))
        self.assertEqual([lot_at(facts, block) for block in ((0, 4), (0, 9), (4, 9), (4, 8), (3, 9))],
                         [(), (1,), (0, 2), None, None])
        self.assertIsNone(lot_at((), (0, 1)))
        self.assertEqual(facts_in(facts, (0, 8)), facts[:1])
        self.assertEqual(facts_in((), (0, 8)), ())

    def test_are_crossing(self):
        blocks = list(itertools.combinations(range(8), 2))
        for one in blocks:
            for other in blocks:
                self.assertIs(leaves_alone(self, are_crossing, one, other), cross(one, other))
        far = [(FAR, FAR + 3), (FAR + 2, FAR + 5), (FAR + 3, FAR + 5), (FAR + 2, FAR + 3)]
        self.assertEqual([are_crossing(far[0], other) for other in far], [False, True, False, False])

    def test_with_fact_is_one_more_to_meet(self):
        chance = random.Random(4)
        counts = {"new": 0, "there": 0, "crossing": 0, "none": 0}
        words = words_of_length("ab", 6)
        for _ in range(400):
            facts = some_facts(chance, CAP, 6, 4)
            i, j = sorted(chance.sample(range(7), 2))
            fact = (i, j, tuple([x for x in range(3) if chance.random() < 0.6]))
            if facts and chance.random() < 0.4:
                fact = chance.choice(facts)[:2] + fact[2:]
            if any(cross(fact, other) for other in facts):
                counts["crossing"] += 1
                with self.assertRaises(Crossing) as caught:
                    leaves_alone(self, with_fact, facts, fact)
                self.assertIs(caught.exception.fact, fact)
                continue
            found = leaves_alone(self, with_fact, facts, fact)
            self.assertTrue(are_facts(CAP, 6, found))
            self.assertEqual({one[:2] for one in found}, {one[:2] for one in facts + (fact,)})
            for word in words:
                self.assertEqual(meets(CAP, word, found), meets(CAP, word, facts) and meets(CAP, word, (fact,)))
            is_there = any(fact[:2] == other[:2] for other in facts)
            counts["there" if is_there else "new"] += 1
            counts["none"] += lot_at(found, fact[:2]) == () and is_there
        self.assertTrue(min(counts.values()) > 5, counts)

    def test_with_the_same_block_three_times(self):
        facts = ((0, 6, (1, 2)), (2, 4, (0, 1, 2)))
        for lots, expected in (
            (((0, 1, 2), (0, 1), (1, 2)), (1,)), (((1,), (2,), (0, 1, 2)), ()), (((0, 2), (0, 2), (0, 2)), (0, 2)),
        ):
            found = facts
            for lot in lots:
                found = with_fact(found, (2, 4, lot))
            self.assertEqual(found, (facts[0], (2, 4, expected)))
        self.assertEqual(with_fact((), (3, 4, ())), ((3, 4, ()),))

    def test_with_fact_at_touching_ends_and_far_away(self):
        facts = ((3, 6, (1,)),)
        for block in ((0, 3), (6, 9), (3, 4), (5, 6), (3, 9), (0, 6), (0, 9), (4, 5)):
            self.assertEqual(with_fact(facts, block + ((2,),)), tuple(sorted(facts + (block + ((2,),),))))
        for block in ((0, 4), (5, 9), (2, 5), (4, 7)):
            fact = block + ((2,),)
            with self.assertRaises(Crossing) as caught:
                with_fact(facts, fact)
            self.assertIs(caught.exception.fact, fact)
        far = ((5, FAR, (1,)),)
        self.assertEqual(with_fact(far, (FAR - 1, FAR, (0,))), far + ((FAR - 1, FAR, (0,)),))
        with self.assertRaises(Crossing):
            with_fact(far, (FAR - 1, FAR + 1, (0,)))


class Keys(unittest.TestCase):
    def test_keys_come_behind_those_of_their_halves(self):
        for n, facts in cases():
            tree = tree_blocks(n, facts)
            keys = keys_within(facts, [(0, n)])
            expected = {block if facts_in(facts, block) else block[1] - block[0] for block in tree}
            self.assertEqual(len(keys), len(expected))
            self.assertEqual(set(keys), expected)
            for block in tree:
                if block[1] - block[0] > 1:
                    at = keys.index(key_of(facts, block))
                    self.assertTrue(all(keys.index(key_of(facts, half)) < at for half in halves_of(facts, block)))


if __name__ == "__main__":
    unittest.main()
