"""[8], [20]: what can come where, held against all WORDS gone through one by one."""

import random
import time
import unittest

from tests.helpers import (
    CAP, FIRSTS, LONELY, ONE, PARITY, leaves_alone, measure_by_table, meets, moved_along, some_facts, some_measures,
    some_models, swept, walks, weight_by_walks, words_of_length,
)
from unwrittenrow.blocks import facts_in, tree_blocks, with_fact
from unwrittenrow.errors import Crossing
from unwrittenrow.support import can_be, is_possible, letters_at, members_at, states_at, support_of
from unwrittenrow.weights import weights_of

FAR = 2 ** 200
MODELS = (
    some_models(31, 25) + some_models(32, 15, CAP, 3) + some_models(33, 10, FIRSTS, 2) + some_models(34, 6, ONE, 2)
    + some_models(35, 6, LONELY, 3)
    + [model for at, measure in enumerate(some_measures(36, 20)) for model in some_models(at, 1, measure, 3)]
)
# All begins and ends above 0, and arcs enough for WORDS of all lengths.
FULL = [
    (measure, (1, 2), (3, 1), ((0, "a", 0, 1), (0, "b", 1, 2), (1, "a", 1, 1), (1, "b", 0, 5)))
    for measure in (PARITY, CAP, FIRSTS, LONELY, ONE)
]


def words_that_meet(model, n, facts):
    return [
        word for word in words_of_length("ab", n)
        if weight_by_walks(model, word) > 0 and meets(model[0], word, facts)
    ]


def states_by_walks(model, words, x):
    """Return the STATES behind x LETTERS, by all WALKS of WORDS."""
    found = set()
    for word in words:
        for p, r, _ in walks(model, word[:x]):
            for s, q, _ in walks(model, word[x:]):
                if r == s and model[1][p] and model[2][q]:
                    found.add(r)
    return tuple(sorted(found))


def all_stretches(n):
    return [(i, j) for i in range(n + 1) for j in range(i, n + 1)]


class Supports(unittest.TestCase):
    def test_of_each_block_of_a_tree(self):
        chance = random.Random(1)
        for model in MODELS + FULL:
            for n in (1, 2, 5, 8, 13):
                facts = some_facts(chance, model[0], n, 5)
                for block in tree_blocks(n, facts):
                    weights = weights_of(model, facts, block)
                    found = leaves_alone(self, support_of, model, facts, block)
                    self.assertEqual(found, tuple(sorted(weights)))
                    self.assertEqual([weight for weight in weights.values() if weight <= 0], [])

    def test_under_a_lot_that_is_empty_or_all(self):
        for model in MODELS + FULL:
            whole = tuple(range(len(model[0][0])))
            for block in ((0, 1), (0, 5), (3, 7)):
                free = support_of(model, (), block)
                self.assertEqual(support_of(model, (block + (whole,),), block), free)
                self.assertEqual(support_of(model, (block + ((),),), block), ())
                for m in whole:
                    told = support_of(model, (block + ((m,),),), block)
                    self.assertEqual(told, tuple([stand for stand in free if stand[2] == m]))

    def test_blocks_of_as_many_places_have_the_same(self):
        for model in MODELS[:20] + FULL:
            for many in (1, 3, 8, 11):
                self.assertEqual(
                    support_of(model, (), (0, many)), support_of(model, ((0, 2, (0,)),), (FAR, FAR + many))
                )


class AgainstAllWords(unittest.TestCase):
    def check(self, model, n, facts):
        words = words_that_meet(model, n, facts)
        measure = model[0]
        with self.subTest(model=model, n=n, facts=facts):
            self.assertIs(leaves_alone(self, is_possible, model, n, facts), bool(words))
            for i, j in all_stretches(n):
                lot = tuple(sorted({measure_by_table(measure, word[i:j]) for word in words}))
                self.assertEqual(leaves_alone(self, members_at, model, n, facts, i, j), lot, (i, j))
                if i < j:
                    members = range(len(measure[0]))
                    for more in [()] + [(x,) for x in members] + [(0, members[-1])[:len(members)], tuple(members)]:
                        self.assertIs(
                            leaves_alone(self, can_be, model, n, facts, (i, j, more)), bool(set(lot) & set(more))
                        )
            for x in range(n):
                letters = tuple(sorted({word[x] for word in words}))
                self.assertEqual(leaves_alone(self, letters_at, model, n, facts, x), letters)
            for x in range(n + 1):
                self.assertEqual(
                    leaves_alone(self, states_at, model, n, facts, x), states_by_walks(model, words, x)
                )
        return len(words)

    def test_for_all_stretches_places_and_states(self):
        chance = random.Random(2)
        counts = []
        for at, model in enumerate(MODELS + FULL + FULL):
            for n in (1, 2, 3, 4) + ((5,) if at % 4 == 0 else ()):
                facts = some_facts(chance, model[0], n, 4)
                counts.append(self.check(model, n, facts))
                if at % 3 == 0:
                    self.check(model, n, ())
        self.assertTrue(counts.count(0) > 20 and len([many for many in counts if many > 2]) > 50)

    def test_facts_one_in_another_and_crossed(self):
        for model in FULL:
            members = tuple(range(len(model[0][0])))
            for lot in (members[-1:], members[:1], members, ()):
                self.check(model, 6, ((0, 6, lot), (1, 5, members), (2, 4, members[:1])))
                self.check(model, 5, ((0, 2, lot), (2, 5, members[-1:])))
                self.check(model, 5, ((0, 4, members[-1:]), (1, 3, lot), (3, 4, members)))


class Facts(unittest.TestCase):
    def test_can_be_is_whether_one_more_is_possible(self):
        chance = random.Random(3)
        met = 0
        for model in (MODELS + FULL)[::2]:
            for n in (3, 9, 40):
                facts = some_facts(chance, model[0], n, 4)
                i, j = sorted(chance.sample(range(n + 1), 2))
                more = (i, j, tuple([x for x in range(len(model[0][0])) if chance.random() < 0.5]))
                found = can_be(model, n, facts, more)
                try:
                    expected = is_possible(model, n, with_fact(facts, more))
                except Crossing:
                    continue
                met += 1
                self.assertIs(found, expected)
        self.assertGreater(met, 20)

    def test_facts_taken_back_leave_nothing_behind(self):
        model, n = FULL[1], 50
        facts = ((3, 9, (1,)), (4, 5, (0,)), (20, 50, (2,)))
        first = [members_at(model, n, (), 2, 7), letters_at(model, n, (), 4), states_at(model, n, (), 9)]
        under = [members_at(model, n, facts, 2, 7), letters_at(model, n, facts, 4), is_possible(model, n, facts)]
        again = [members_at(model, n, (), 2, 7), letters_at(model, n, (), 4), states_at(model, n, (), 9)]
        self.assertEqual(first, again)
        self.assertNotEqual(first[:2], under[:2])
        self.assertEqual(
            under, [members_at(model, n, facts, 2, 7), letters_at(model, n, facts, 4), is_possible(model, n, facts)]
        )

    def test_no_places_at_all(self):
        self.assertEqual(members_at(FULL[0], 0, (), 0, 0), (0,))
        self.assertIs(is_possible(FULL[0], 0, ()), True)
        self.assertEqual(states_at(FULL[0], 0, (), 0), (0, 1))


class ManyPlaces(unittest.TestCase):
    """Held against a way from left to right, with all that FACTS have told so far."""

    def check(self, model, n, facts, small, shift):
        """See that what is told of a long row is what is told of a short one, at places that belong together."""
        short = tuple([fact if fact[1] <= n // 2 else (fact[0] - shift, fact[1] - shift, fact[2]) for fact in facts])
        back = lambda x: x if x <= n // 2 else x - shift
        ends = [q for q, end in enumerate(model[2]) if end]
        words = {q for q, _ in swept(model, small, short)} & set(ends)
        self.assertIs(leaves_alone(self, is_possible, model, n, facts), bool(words))
        for i, j in ((0, n), (2, 4), (1, n), (3, n - 3), (n - 6, n - 1), (0, 7), (5, 5), (n, n)):
            lot = {m for q, m in swept(model, small, short, None, (back(i), back(j))) if q in ends}
            self.assertEqual(leaves_alone(self, members_at, model, n, facts, i, j), tuple(sorted(lot)), (i, j))
        for x in (0, 3, 5, n - 6, n - 2, n - 1):
            letters = [
                letter for letter in "ab"
                if {q for q, _ in swept(
                    model, small, short, None, (0, 0), lambda y, arc: y != back(x) or arc[1] == letter
                )} & set(ends)
            ]
            self.assertEqual(leaves_alone(self, letters_at, model, n, facts, x), tuple(letters))
            states = [
                p for p in range(len(model[1]))
                if {q for q, _ in swept(model, small, short, None, (0, 0), lambda y, arc: y != back(x) or arc[0] == p)}
                & set(ends)
            ]
            self.assertEqual(leaves_alone(self, states_at, model, n, facts, x), tuple(states))
        self.assertEqual(states_at(model, n, facts, n), tuple(sorted(words)))

    def lengths_alike(self, model, gap):
        """Return a few places less than a gap, with the same support as the gap has."""
        met, rows, many = {}, support_of(model, (), (0, 1)), 1
        while rows not in met:
            met[rows] = many
            many += 1
            rows = tuple(sorted({
                (p, q, model[0][0][x][y]) for p, r, x in rows for s, q, y in support_of(model, (), (0, 1)) if r == s
            }))
        period = many - met[rows]
        return met[rows] + (gap - met[rows]) % period

    def facts_at_both_ends(self, chance, measure, n):
        low = some_facts(chance, measure, 8, 3, 0)
        high = moved_along(some_facts(chance, measure, 7, 3, 0), n - 7)
        return low + high

    def test_lengths_like_2_to_200(self):
        chance = random.Random(4)
        possible = 0
        for at, model in enumerate(MODELS[::3] + FULL * 2):
            for n in (FAR, FAR - 1, 10 ** 60 + at):
                few = self.lengths_alike(model, n - 15)
                facts = self.facts_at_both_ends(chance, model[0], n)
                self.check(model, n, facts, few + 15, n - few - 15)
                possible += is_possible(model, n, facts)
        self.assertGreater(possible, 30)

    def test_a_fact_over_nearly_all(self):
        for model in FULL:
            few = self.lengths_alike(model, FAR - 15)
            for lot in [()] + [(x,) for x in range(len(model[0][0]))]:
                facts = with_fact(((1, 2, (0, 1)), (FAR - 3, FAR - 1, (0, 2))), (1, FAR - 1, lot))
                facts = tuple([(i, j, tuple([x for x in its if x < len(model[0][0])])) for i, j, its in facts])
                short = tuple([
                    (i, j if j < 9 else j - FAR + few + 15, its) if i < 9 else (i - FAR + few + 15, j - FAR + few + 15, its)
                    for i, j, its in facts
                ])
                for i, j in ((0, 2), (1, 5), (5, FAR - 2), (FAR - 2, FAR), (1, FAR - 1)):
                    back = [x if x < 9 else x - FAR + few + 15 for x in (i, j)]
                    lot = {m for q, m in swept(model, few + 15, short, None, tuple(back)) if model[2][q]}
                    self.assertEqual(members_at(model, FAR, facts, i, j), tuple(sorted(lot)))
                    for x in range(len(model[0][0])):
                        self.assertIs(can_be(model, FAR, facts, (i, j, (x,))), x in lot)

    def test_it_is_quick(self):
        eight = tuple([tuple([(x + y) % 8 for y in range(8)]) for x in range(8)])
        measure = (eight, tuple([(letter, at) for at, letter in enumerate("abcdef")]))
        model = (measure, (1,) * 6, (1,) * 6, tuple([
            (p, letter, q, 1) for p in range(6) for letter in "abcdef" for q in range(6)
        ]))
        facts = ((0, 3, (1,)), (1, 2, (0, 5)), (5, FAR // 3, (2, 3)), (FAR - 9, FAR - 1, (4,)))
        began = time.process_time()
        self.assertIs(is_possible(model, FAR, facts), True)
        self.assertEqual(members_at(model, FAR, facts, 2, FAR - 3), tuple(range(8)))
        self.assertEqual(letters_at(model, FAR, facts, 1), ("a", "f"))
        self.assertEqual(states_at(model, FAR, facts, FAR - 4), tuple(range(6)))
        self.assertLess(time.process_time() - began, 20)

    def test_parity_far_away(self):
        model = (PARITY, (1,), (1,), ((0, "a", 0, 1), (0, "b", 0, 1)))
        facts = ((0, FAR // 2, (1,)), (1, FAR // 2, (1,)), (FAR // 2, FAR, (0,)), (FAR // 2, FAR - 1, (1,)))
        self.assertEqual(letters_at(model, FAR, facts, 0), ("a",))
        self.assertEqual(letters_at(model, FAR, facts, FAR - 1), ("b",))
        self.assertEqual(letters_at(model, FAR, facts, 1), ("a", "b"))
        self.assertEqual(members_at(model, FAR, facts, 0, FAR), (1,))
        self.assertEqual(members_at(model, FAR, facts, 1, FAR - 1), (0,))
        self.assertEqual(members_at(model, FAR, facts, 2, FAR - 1), (0, 1))
        self.assertEqual(facts_in(facts, (0, FAR // 2)), facts[:2])


if __name__ == "__main__":
    unittest.main()
