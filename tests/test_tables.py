"""[24]: TABLES made, and TABLES looked at, held against the definitions with plain integers."""

import random
import unittest

from tests.helpers import (
    CAP, FIRSTS, LONELY, PARITY, any_values, changed, leaves_alone, lists_for_tuples, some_facts, some_measures,
    some_models, truths_for_numbers,
)
from tests.test_enclosures import plain_around
from unwrittenrow.blocks import facts_in, halves_of, key_of, tree_blocks
from unwrittenrow.enclosures import holds
from unwrittenrow.forms import is_enclosure
from unwrittenrow.tables import are_tables, enclosed, keys_needed, made_tables
from unwrittenrow.weights import weights_of

FAR = 2 ** 200
MODEL = (CAP, (1, 0), (1, 1), ((0, "a", 0, 3), (0, "b", 1, 1), (1, "a", 0, 2), (1, "b", 1, 1)))
MODELS = (
    some_models(51, 12, most=10 ** 6) + some_models(52, 8, CAP, 3) + some_models(53, 6, FIRSTS, 2)
    + some_models(54, 3, LONELY, 3) + [MODEL]
    + [model for at, measure in enumerate(some_measures(55, 8)) for model in some_models(at, 1, measure, 3, 10 ** 6)]
)


def in_order(keys):
    return sorted(keys, key=lambda key: (0, key, ()) if type(key) is int else (1, 0, key))


def plain_keys(facts, n, blocks):
    found = set()
    for block in tree_blocks(n, facts):
        if any(i <= block[0] and block[1] <= j for i, j in blocks):
            inner = [fact for fact in facts if block[0] <= fact[0] and fact[1] <= block[1]]
            found.add(block if inner else block[1] - block[0])
    return in_order(found)


def block_of(key):
    return (0, key) if type(key) is int else key


def plain_parts(model, facts, key, tables):
    """Return the dict from the STANDS of a KEY to the lists of (low, high) of their PARTS, as integers."""
    (table, values), _, _, arcs = model
    parts = {}
    block = block_of(key)
    inner = facts if type(key) is tuple else ()
    if block[1] - block[0] == 1:
        for p, letter, q, w in arcs:
            stand = (p, q, dict(values)[letter])
            parts[stand] = [(w + sum(x for x, _ in parts.get(stand, [])),) * 2]
    else:
        first, second = [tables[key_of(inner, half)] for half in halves_of(inner, block)]
        for (p, r, x), (low, high, e) in first.items():
            for (s, q, y), (its_low, its_high, its_e) in second.items():
                if r == s:
                    part = ((low * its_low) << (e + its_e), (high * its_high) << (e + its_e))
                    parts.setdefault((p, q, table[x][y]), []).append(part)
    lots = [lot for i, j, lot in inner if (i, j) == key]
    return {stand: parts[stand] for stand in parts if not lots or stand[2] in lots[0]}


def plain_tables(model, facts, n, bits):
    """Return the TABLES of (0, n) by the definition."""
    made = {}
    keys = plain_keys(facts, n, [(0, n)])
    for key in sorted(keys, key=lambda key: block_of(key)[1] - block_of(key)[0]):
        made[key] = {
            stand: plain_around(sum(low for low, _ in parts), sum(high for _, high in parts), bits)
            for stand, parts in plain_parts(model, facts, key, made).items()
        }
    return made


def plainly_right(model, facts, tables):
    """Tell whether TABLES with the right KEYS and forms are as [24] asks, by plain integers."""
    for key, table in tables.items():
        block = block_of(key)
        if block[1] - block[0] > 1:
            inner = facts if type(key) is tuple else ()
            if not all(key_of(inner, half) in tables for half in halves_of(inner, block)):
                return False
    for key, table in tables.items():
        parts = plain_parts(model, facts, key, tables)
        if set(parts) != set(table):
            return False
        for stand, (low, high, e) in table.items():
            if low << e > sum(part[0] for part in parts[stand]):
                return False
            if high << e < sum(part[1] for part in parts[stand]):
                return False
    return True


def copied(tables):
    return {key: dict(table) for key, table in tables.items()}


class KeysNeeded(unittest.TestCase):
    def test_of_one_to_forty_places(self):
        chance = random.Random(1)
        for n in range(1, 41):
            for facts in [(), ((0, n, (0,)),), ((n - 1, n, ()),)] + [some_facts(chance, CAP, n, 6) for _ in range(3)]:
                tree = tree_blocks(n, facts)
                several = [chance.choice(tree) for _ in range(chance.randint(0, 4))]
                for blocks in ([(0, n)], several, tree, [], [tree[-1]], [(0, n), (0, n)]):
                    found = leaves_alone(self, keys_needed, facts, blocks)
                    self.assertEqual(found, plain_keys(facts, n, blocks), (n, facts, blocks))
                    self.assertIs(type(found), list)
                    self.assertEqual(keys_needed(facts, tuple(blocks)), found)

    def test_of_very_many_places(self):
        self.assertEqual(keys_needed((), [(0, FAR)]), [2 ** e for e in range(201)])
        self.assertEqual(keys_needed((), [(0, FAR - 1)])[-1], FAR - 1)
        self.assertEqual(len(keys_needed((), [(0, FAR - 1)])), 399)
        facts = ((3, 9, (1,)), (FAR - 2, FAR, (0,)), (FAR - 1, FAR, (2,)))
        found = keys_needed(facts, [(0, FAR)])
        numbers = [key for key in found if type(key) is int]
        self.assertEqual(numbers, sorted(numbers))
        self.assertEqual(found[len(numbers):], sorted(found[len(numbers):]))
        self.assertEqual(
            found[len(numbers):], [(0, FAR), (3, 9), (3, FAR), (9, FAR), (FAR - 2, FAR), (FAR - 1, FAR)]
        )
        self.assertIn(FAR - 11, numbers)


class MadeTables(unittest.TestCase):
    def cases(self):
        chance = random.Random(2)
        for model in MODELS:
            for n in (1, 2, 5, 9):
                yield model, n, ()
                yield model, n, some_facts(chance, model[0], n, 5)

    def test_to_the_last_digit(self):
        for model, n, facts in self.cases():
            for bits in (1, 2, 8, 20, 64, 2000):
                found = leaves_alone(self, made_tables, model, facts, [(0, n)], bits)
                self.assertEqual(found, plain_tables(model, facts, n, bits), (model, facts, n, bits))
                self.assertEqual(list(found), keys_needed(facts, [(0, n)]))
                for key, table in found.items():
                    self.assertEqual(list(table), sorted(table))
                    for stand, enclosure in table.items():
                        self.assertTrue(is_enclosure(enclosure))
                        self.assertLess(enclosure[1], 2 ** bits)

    def test_they_hold_exact_v(self):
        for model, n, facts in self.cases():
            for bits in (1, 3, 30, 2000):
                tables = made_tables(model, facts, [(0, n)], bits)
                for key, table in tables.items():
                    weights = weights_of(model, facts if type(key) is tuple else (), block_of(key))
                    self.assertEqual(list(table), list(weights))
                    for stand, weight in weights.items():
                        self.assertTrue(holds(table[stand], weight))
                        if bits == 2000:
                            self.assertEqual(table[stand], (weight, weight, 0))

    def test_of_several_blocks(self):
        facts = ((1, 3, (1,)), (5, 9, (0, 2)), (6, 7, (0,)))
        whole = made_tables(MODEL, facts, [(0, 12)], 12)
        for blocks in ([], [(1, 3)], [(5, 9), (1, 3)], ((6, 7), (0, 1)), [(9, 12), (9, 12), (3, 5)], [(0, 12), (1, 2)]):
            for one in blocks:
                self.assertIn(one, tree_blocks(12, facts) + [(3, 5)])
            found = leaves_alone(self, made_tables, MODEL, facts, blocks, 12)
            self.assertEqual(list(found), keys_needed(facts, blocks))
            self.assertEqual(found, {key: whole[key] if key in whole else made_tables(MODEL, (), [(0, key)], 12)[key]
                                     for key in found})

    def test_of_very_many_places(self):
        for facts in ((), ((3, 9, (1,)), (FAR - 2, FAR, (0, 2)), (FAR - 1, FAR, (0,)))):
            for model in (MODEL, MODELS[0], MODELS[13]):
                facts = tuple([(i, j, tuple([x for x in lot if x < len(model[0][0])])) for i, j, lot in facts])
                tables = made_tables(model, facts, [(0, FAR)], 40)
                self.assertEqual(list(tables), keys_needed(facts, [(0, FAR)]))
                self.assertIs(leaves_alone(self, are_tables, model, facts, tables), True)
        tables = made_tables(MODEL, (), [(0, FAR)], 40)
        self.assertGreater(min(e for _, _, e in tables[FAR].values()), 2 ** 200)
        self.assertEqual(tables, made_tables(MODEL, (), [(0, FAR)], 40))

    def test_of_one_place_they_are_trimmed(self):
        model = (PARITY, (1,), (1,), ((0, "a", 0, 1000), (0, "b", 0, 999)))
        self.assertEqual(
            made_tables(model, (), [(4, 5)], 4), {1: {(0, 0, 0): (7, 8, 7), (0, 0, 1): (7, 8, 7)}}
        )
        told = made_tables(model, ((4, 5, (1,)),), [(4, 5)], 10)
        self.assertEqual(told, {(4, 5): {(0, 0, 1): (999, 999, 0)}})
        self.assertEqual(made_tables(model, ((4, 5, ()),), [(4, 5)], 10), {(4, 5): {}})

    def test_dicts_are_new(self):
        facts = ((1, 3, (1,)),)
        first = made_tables(MODEL, facts, [(0, 3)], 9)
        before = copied(first)
        first[1].clear()
        first.pop(2, None)
        self.assertEqual(made_tables(MODEL, facts, [(0, 3)], 9), before)


class AreTables(unittest.TestCase):
    def yes(self, model, facts, thing):
        self.assertIs(leaves_alone(self, are_tables, model, facts, thing), True)

    def no(self, model, facts, thing):
        self.assertIs(leaves_alone(self, are_tables, model, facts, thing), False)

    def cases(self, seed, sizes=(1, 3, 6)):
        chance = random.Random(seed)
        for model in MODELS:
            for n in sizes:
                for facts in ((), some_facts(chance, model[0], n, 4)):
                    yield model, n, facts, chance

    def exact(self, model, facts, n):
        return made_tables(model, facts, [(0, n)], 2000)

    def test_made_exact_and_wider_ones(self):
        for model, n, facts, chance in self.cases(3):
            for bits in (1, 5, 2000):
                tables = made_tables(model, facts, [(0, n)], bits)
                self.yes(model, facts, tables)
            self.yes(model, facts, self.wider(chance, model, facts, self.exact(model, facts, n)))

    def wider(self, chance, model, facts, tables):
        """Return TABLES made wider from one place up, by chance."""
        wide = {}
        for key in sorted(tables, key=lambda key: block_of(key)[1] - block_of(key)[0]):
            wide[key] = {}
            for stand, parts in plain_parts(model, facts, key, wide).items():
                e = chance.choice((0, 1, 5, 60))
                low, high = sum(part[0] for part in parts), sum(part[1] for part in parts)
                low = chance.choice((0, low, low // 2)) >> e
                wide[key][stand] = (low, -(-high // 2 ** e) + chance.choice((0, 0, 1, 10 ** 9)), e)
        return wide

    def test_one_more_and_one_less_at_each_key_and_each_end(self):
        met = {True: 0, False: 0}
        for model, n, facts, chance in list(self.cases(4, (1, 3, 5)))[::2]:
            exact = self.exact(model, facts, n)
            for bits in (2000, 4):
                tables = made_tables(model, facts, [(0, n)], bits)
                self.assertTrue(plainly_right(model, facts, tables))
                for key in tables:
                    for stand, (low, high, e) in tables[key].items():
                        for other in (
                            (low + 1, high, e), (low, high - 1, e), (low + 1, high + 1, e), (low - 1, high, e),
                            (low, high + 1, e), (low, high, e + 1), (2 * low, 2 * high, e - 1), (0, high, e),
                        ):
                            if not is_enclosure(other):
                                continue
                            new = copied(tables)
                            new[key][stand] = other
                            expected = plainly_right(model, facts, new)
                            met[expected] += 1
                            self.assertIs(are_tables(model, facts, new), expected, (key, stand, other))
            top = key_of(facts, (0, n))
            for stand, (v, _, _) in exact[top].items():
                for low, high, expected in ((v, v, True), (v + 1, v + 1, False), (v - 1, v - 1, False),
                                            (v - 1, v, True), (v, v + 1, True), (v - 1, v + 1, True)):
                    new = copied(exact)
                    new[top][stand] = (low, high, 0)
                    self.assertIs(are_tables(model, facts, new), expected)
        self.assertGreater(min(met.values()), 300)

    def test_just_at_what_the_parts_make(self):
        one_member = (((0,),), (("a", 0),))
        model = (one_member, (1, 1), (1, 1), ((0, "a", 0, 3), (0, "a", 1, 1), (1, "a", 0, 5)))
        one = {(0, 0, 0): (3, 4, 0), (0, 1, 0): (1, 2, 0), (1, 0, 0): (2, 3, 1)}
        two = {(0, 0, 0): (13, 28, 0), (0, 1, 0): (3, 8, 0), (1, 0, 0): (6, 12, 1), (1, 1, 0): (1, 3, 2)}
        self.assertEqual(plain_parts(model, (), 2, {1: one})[(0, 0, 0)], [(9, 16), (4, 12)])
        self.yes(model, (), {1: one, 2: two})
        for stand, (low, high, e) in two.items():
            for other in ((low + 1, high, e), (low, high - 1, e)):
                self.no(model, (), {1: one, 2: {**two, stand: other}})
        for low, high, e, expected in (
            (26, 56, 0, False), (6, 14, 1, True), (7, 14, 1, False), (6, 13, 1, False), (3, 7, 2, True),
            (3, 6, 2, False), (0, 1, 5, True), (0, 1, 4, False), (1, 4, 3, True), (2, 4, 3, False), (0, 0, 9, False),
            (0, 1, 10 ** 199, True), (1, 1, 10 ** 199, False), (0, 0, 10 ** 199, False),
        ):
            self.assertIs(are_tables(model, (), {1: one, 2: {**two, (0, 0, 0): (low, high, e)}}), expected)

    def test_exponents_of_two_hundred_digits(self):
        huge = 10 ** 199
        tables = made_tables(MODEL, (), [(0, 8)], 30)
        wide = {key: {stand: (0, 1, huge * key) for stand in table} for key, table in tables.items()}
        # What is twice as far may be as much as what two of them make, but for their number.
        self.no(MODEL, (), wide)
        wide = {key: {stand: (0, 16 ** (2 * key - 1), huge * key) for stand in table} for key, table in tables.items()}
        self.yes(MODEL, (), wide)
        wide[4][(0, 0, 0)] = (0, 16 ** 7, huge * 4 - 9)
        self.no(MODEL, (), wide)
        tables[8][(0, 0, 0)] = (1, 2, huge)
        self.no(MODEL, (), tables)
        tables[8][(0, 0, 0)] = (0, 2, huge)
        self.yes(MODEL, (), tables)

    def test_stands_and_keys_more_or_less(self):
        for model, n, facts, chance in self.cases(5, (2, 5)):
            tables = self.exact(model, facts, n)
            for key in tables:
                less = copied(tables)
                del less[key]
                self.assertIs(are_tables(model, facts, less), key == key_of(facts, (0, n)), (key, list(tables)))
                for stand in tables[key]:
                    less = copied(tables)
                    del less[key][stand]
                    self.no(model, facts, less)
                states, members = len(model[1]), len(model[0][0])
                for stand in [(p, q, m) for p in (0, states) for q in (0, states - 1) for m in (0, members - 1, members)]:
                    if stand not in tables[key]:
                        for enclosure in ((0, 0, 0), (0, 5, 0), (1, 1, 0)):
                            more = copied(tables)
                            more[key][stand] = enclosure
                            self.no(model, facts, more)

    def test_a_stand_with_nought_is_a_stand(self):
        model = (PARITY, (1,), (1,), ((0, "a", 0, 1),))
        self.yes(model, (), {1: {(0, 0, 0): (0, 1, 0)}, 2: {(0, 0, 0): (0, 1, 0)}})
        self.yes(model, (), {1: {(0, 0, 0): (1, 1, 0)}, 2: {(0, 0, 0): (0, 1, 0)}})
        self.no(model, (), {1: {(0, 0, 0): (0, 1, 0)}, 2: {}})
        self.no(model, (), {1: {(0, 0, 0): (0, 0, 0)}, 2: {(0, 0, 0): (0, 0, 0)}})
        self.no(model, (), {1: {(0, 0, 0): (1, 1, 0), (0, 0, 1): (0, 0, 0)}})

    def test_keys_that_are_none(self):
        facts = ((1, 4, (1, 2)), (2, 3, (1,)))
        tables = made_tables(MODEL, facts, [(0, 6)], 20)
        self.yes(MODEL, facts, tables)
        for key in (
            0, -1, True, False, "1", None, (), (0,), (4, 6), (0, 1), (4, 5), (6, 9), (0, 2), (3, 6), (2, 9), (3, 1),
            (2, 2), (-1, 6), (0, 6, 9), (False, 6), ((0, 6),), (1.5, 6), b"1", (1, None), ("0", "6"),
        ):
            for table in ({}, tables[1], tables[(0, 6)]):
                # A truth stands in the place of the number with which it is found alike.
                new = {other: tables[other] for other in tables if other != key}
                new[key] = dict(table)
                self.no(MODEL, facts, new)
        self.no(MODEL, facts, {True: tables[1]})
        self.no(MODEL, (), {(0, 1): tables[1]})
        self.yes(MODEL, (), {1: tables[1]})

    def test_blocks_that_are_not_of_the_tree(self):
        facts = ((1, 4, (1,)), (2, 3, (1,)))
        for block in ((0, 4), (0, 7), (1, 6), (0, 100), (2, 4), (1, 3), (2, 3)):
            tables = made_tables(MODEL, facts, [block], 20)
            self.assertIn(block, tables)
            self.yes(MODEL, facts, tables)
        # A BLOCK in another FACT, told without this one, is as it is under both.
        inner = made_tables(MODEL, ((2, 3, (1,)),), [(1, 3)], 20)
        self.yes(MODEL, facts, inner)
        self.no(MODEL, facts, made_tables(MODEL, ((2, 3, (1,)),), [(1, 4)], 20))

    def test_keys_of_other_lengths_beside(self):
        tables = made_tables(MODEL, (), [(0, 3), (0, 5), (0, 11)], 20)
        self.yes(MODEL, (), tables)
        self.yes(MODEL, ((0, 4, (1,)),), tables)
        far = made_tables(MODEL, (), [(0, FAR)], 20)
        self.yes(MODEL, (), {**tables, **far})
        self.no(MODEL, (), {10 ** 150: {}})
        self.no(MODEL, (), {**far, FAR + 1: {}})
        for key in (7, 12, FAR):
            self.no(MODEL, (), {**tables, key: {}})

    def test_in_any_order(self):
        chance = random.Random(6)
        facts = ((1, 4, (1, 2)), (2, 3, (1,)))
        tables = made_tables(MODEL, facts, [(0, 9)], 20)
        for _ in range(20):
            keys = list(tables)
            chance.shuffle(keys)
            mixed = {}
            for key in keys:
                stands = list(tables[key])
                chance.shuffle(stands)
                mixed[key] = {stand: tables[key][stand] for stand in stands}
            self.yes(MODEL, facts, mixed)
            for block in tree_blocks(9, facts):
                found = leaves_alone(self, enclosed, mixed, facts, block)
                self.assertEqual(list(found.items()), list(tables[key_of(facts, block)].items()))

    def test_tables_of_other_facts(self):
        one, other = ((1, 4, (1, 2)), (2, 3, (1,))), ((1, 4, (0, 1)), (2, 3, (1,)))
        mine, its = (made_tables(MODEL, facts, [(0, 6)], 20) for facts in (one, other))
        self.yes(MODEL, one, mine)
        self.yes(MODEL, other, its)
        self.no(MODEL, one, its)
        self.no(MODEL, other, mine)
        self.no(MODEL, (), mine)
        self.no(MODEL, one[1:], mine)
        self.yes(MODEL, one, made_tables(MODEL, (), [(0, 6)], 20))
        self.no(MODELS[12], (), made_tables(MODEL, (), [(0, 6)], 20))

    def test_other_forms(self):
        facts = ((0, 2, (0, 1)),)
        tables = made_tables(MODEL, facts, [(0, 3)], 20)
        for key in tables:
            for stand, enclosure in tables[key].items():
                low, high, e = enclosure
                others = truths_for_numbers(enclosure) + lists_for_tuples(enclosure) + [
                    (high + 1, low, e), (-1, high, e), (low, high, -1), (low, high), (low, high, e, 0), None, low, "",
                    (str(low), high, e), (None, high, e), {low: high},
                ]
                for other in others:
                    new = copied(tables)
                    new[key][stand] = other
                    self.no(MODEL, facts, new)
                for other in truths_for_numbers(stand) + [stand + (0,), stand[:2], str(stand), stand[0]]:
                    new = copied(tables)
                    del new[key][stand]
                    new[key][other] = enclosure
                    self.no(MODEL, facts, new)
            for other in [None, [], (), 0, True, "", list(tables[key].items()), tuple(tables[key]), [tables[key]], {0: 0}]:
                self.no(MODEL, facts, {**tables, key: other})

    def test_values_of_any_kind(self):
        facts = ((0, 2, (0, 1)),)
        tables = made_tables(MODEL, facts, [(0, 3)], 20)
        for thing in any_values():
            expected = thing == {} and type(thing) is dict
            self.assertIs(leaves_alone(self, are_tables, MODEL, facts, thing), expected)
            self.no(MODEL, facts, {**tables, 1: thing})
            self.no(MODEL, facts, {**tables, 1: {**tables[1], (0, 0, 0): thing}})
            self.no(MODEL, facts, {1: thing})
            try:
                as_key, as_stand = {**tables, thing: {}}, {**tables, 1: {**tables[1], thing: (1, 1, 0)}}
            except TypeError:
                continue
            self.no(MODEL, facts, as_key)
            self.no(MODEL, facts, as_stand)
        for thing in changed((tables,)) + [list(tables), tuple(tables.items()), [tables]]:
            self.no(MODEL, facts, thing)

    def test_the_same_again(self):
        facts = ((0, 2, (0, 1)),)
        tables = made_tables(MODEL, facts, [(0, 3)], 20)
        tables[1][(0, 0, 0)] = (4, 4, 0)
        self.no(MODEL, facts, tables)
        tables[1][(0, 0, 0)] = (3, 3, 0)
        self.yes(MODEL, facts, tables)


class Enclosed(unittest.TestCase):
    def test_of_each_block(self):
        facts = ((1, 4, (1, 2)), (2, 3, (1,)))
        tables = made_tables(MODEL, facts, [(0, 9)], 20)
        for block in tree_blocks(9, facts):
            key = block if facts_in(facts, block) else block[1] - block[0]
            found = leaves_alone(self, enclosed, tables, facts, block)
            self.assertEqual(found, tables[key])
            self.assertEqual(list(found), sorted(found))
            found.clear()
            self.assertEqual(enclosed(tables, facts, block), tables[key])
        self.assertEqual(enclosed({2: {(1, 0, 0): (1, 1, 0), (0, 0, 1): (0, 2, 0)}}, (), (FAR, FAR + 2)),
                         {(0, 0, 1): (0, 2, 0), (1, 0, 0): (1, 1, 0)})


if __name__ == "__main__":
    unittest.main()
