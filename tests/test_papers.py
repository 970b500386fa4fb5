"""[29]: what THINGS alone answer, and the ENCLOSURES of SHARES by TABLES."""

import random
import unittest

from tests.helpers import CAP, FIRSTS, any_values, changed, leaves_alone, lists_for_tuples, some_facts, truths_for_numbers
from tests.plain_rows import PlainRow, all_asks, plain_answer_by, plain_shares_in, plain_tree
from tests.test_rows import MODEL, MODELS, cases
from unwrittenrow.enclosures import holds
from unwrittenrow.errors import TooClose
from unwrittenrow.papers import answer_by, shares_in
from unwrittenrow.rows import answer_of, first_things, opened, things_of
from unwrittenrow.tables import made_tables

FAR = 2 ** 200


def things_opened(model, n, facts, coins, ask):
    return tuple([(name, thing) for name, _, thing in opened(model, n, facts, coins, ask, 300)])


class AnswerBy(unittest.TestCase):
    def holds(self, measure, n, facts, ask, things):
        found = leaves_alone(self, answer_by, measure, n, facts, ask, things)
        expected = plain_answer_by(measure, n, facts, ask, things)
        self.assertEqual(found, expected, (measure, n, facts, ask, things))
        if found is not None:
            self.assertIs(type(found), tuple)
            self.assertIs(type(found[0]), type(expected[0]))
        return found

    def opened(self, seed, sizes):
        for model, n, facts, chance in cases(seed, sizes):
            coins = (chance.randrange(10 ** 9), ())
            for ask in chance.sample(all_asks(model[0], n), 6 if n > 1 else 3):
                yield model, n, facts, coins, ask, things_opened(model, n, facts, coins, ask), chance

    def test_of_what_is_opened(self):
        for model, n, facts, coins, ask, things, _ in self.opened(21, (1, 2, 4, 6)):
            found = self.holds(model[0], n, facts, ask, things)
            self.assertEqual(found, (answer_of(model, n, facts, coins, ask, 300),))

    def test_of_others(self):
        met = {True: 0, False: 0}
        for model, n, facts, coins, ask, things, chance in self.opened(22, (1, 3, 5)):
            others = [things[:at] + things[at + 1:] for at in range(len(things))]
            others.extend([things[:at] + (things[at],) + things[at:] for at in range(len(things))])
            others.extend([
                things[:at] + (things[at + 1], things[at]) + things[at + 2:] for at in range(len(things) - 1)
            ])
            names = [()] + plain_tree(n, facts) + [(n, n + 1)]
            for at, (name, thing) in enumerate(things):
                others.append(things[:at] + ((chance.choice(names), thing),) + things[at + 1:])
                others.append(things + ((chance.choice(names), chance.choice((thing, "a", (0, 0, 0)))),))
                for other in changed(thing) + truths_for_numbers(thing) + lists_for_tuples(thing):
                    others.append(things[:at] + ((name, other),) + things[at + 1:])
            for other in others:
                met[self.holds(model[0], n, facts, ask, other) is None] += 1
            self.assertIsNone(answer_by(model[0], n, facts, ask, ()))
        self.assertGreater(min(met.values()), 1000)

    def test_of_any_values(self):
        for ask in (("letter", 1), ("measure", 0, 1), ("first", 0, 2, (2,)), ("last", 0, 2, (1, 2))):
            things = things_opened(MODEL, 2, (), (3, ()), ask)
            for at, (name, _) in enumerate(things):
                for value in any_values():
                    for other in (value, (value,) * 3, (0, value, 0), (0, 0, value), [value], (value, 0, 0)):
                        self.holds(CAP, 2, (), ask, things[:at] + ((name, other),) + things[at + 1:])

    def test_things_that_nobody_made(self):
        # Just the forms count: STATES from 0 to 5, and MEMBERS that multiply to the STAND's.
        for thing in ((5, 5, 2), (0, 3, 1), (1, 0, 0)):
            self.assertEqual(answer_by(CAP, 4, (), ("measure", 0, 4), (((), thing),)), (thing[2],))
        for thing in ((6, 0, 0), (0, 6, 0), (0, -1, 0), (0, 0, 3), (0, 0, -1), (0, 0), (0, 0, 0, 0)):
            self.assertIsNone(answer_by(CAP, 4, (), ("measure", 0, 4), (((), thing),)))
        first = ((), (5, 4, 2))
        for thing, fits in (((5, 1, 1), True), ((3, 0, 2), True), ((5, 0, 1), False), ((6, 1, 1), False), ((0, 2, 2), True)):
            found = answer_by(CAP, 4, (), ("measure", 0, 2), (first, ((0, 4), thing)))
            self.assertEqual(found, (thing[1],) if fits else None)
        for letter, fits in (("a", False), ("b", True), ("c", False), ("", False), ("bb", False)):
            found = answer_by(CAP, 1, (), ("letter", 0), (((), (0, 0, 1)), ((0, 1), letter)))
            self.assertEqual(found, (letter,) if fits else None)

    def test_there_are_more_members_than_states(self):
        turns = tuple([tuple([(x + y) % 8 for y in range(8)]) for x in range(8)])
        measure = (turns, (("a", 1), ("b", 7)))
        ask = ("measure", 0, 2)
        self.assertEqual(answer_by(measure, 4, (), ask, (((), (0, 5, 7)), ((0, 4), (5, 6, 1)))), (6,))
        self.assertEqual(answer_by(measure, 4, (), ask, (((), (5, 0, 6)), ((0, 4), (0, 7, 7)))), (7,))
        for first, second in (((6, 0, 7), (0, 6, 1)), ((0, 6, 7), (0, 6, 1)), ((0, 0, 8), (0, 4, 4)), ((0, 0, 7), (6, 6, 1)),
                              ((0, 0, 0), (0, 8, 0)), ((0, 0, 0), (0, 0, 8)), ((0, 0, 7), (0, 6, 2))):
            self.assertIsNone(answer_by(measure, 4, (), ask, (((), first), ((0, 4), second))))

    def test_of_very_many_places(self):
        names = [((), (0, 0, 0))]
        for e in range(200, 0, -1):
            names.append(((0, 2 ** e), (0, 0, 0)))
        self.assertEqual(answer_by(CAP, FAR, (), ("measure", 0, 1), tuple(names)), (0,))
        self.assertEqual(answer_by(CAP, FAR, (), ("letter", 0), tuple(names + [((0, 1), "a")])), ("a",))
        self.assertIsNone(answer_by(CAP, FAR, (), ("letter", 0), tuple(names)))
        self.assertIsNone(answer_by(CAP, FAR, (), ("measure", 0, 1), tuple(names + [((0, 1), "a")])))
        self.assertEqual(answer_by(CAP, FAR, (), ("first", 0, FAR, (2,)), (((), (0, 0, 1)),)), (None,))


def turned(chance, tables):
    """Return the same TABLES with KEYS and STANDS in another order."""
    keys = list(tables)
    chance.shuffle(keys)
    out = {}
    for key in keys:
        stands = list(tables[key])
        chance.shuffle(stands)
        out[key] = {stand: tables[key][stand] for stand in stands}
    return out


class SharesIn(unittest.TestCase):
    def test_by_tables_of_all_widths(self):
        chance = random.Random(23)
        met = 0
        for model in MODELS:
            for n in (1, 2, 4, 7):
                for facts in ((), some_facts(chance, model[0], n, 4)):
                    for bits in (1, 6, 2000):
                        tables = turned(chance, made_tables(model, facts, [(0, n)], bits))
                        found = leaves_alone(self, shares_in, model, facts, tables, (), n)
                        self.assertEqual(found, plain_shares_in(model, facts, tables, (), n))
                        self.assertIs(type(found), list)
                        exact = first_things(model, n, facts)
                        self.assert_hold(found, exact, bits)
                        for block in plain_tree(n, facts):
                            key = [key for key in (block, block[1] - block[0]) if key in tables][0]
                            for stand in tables[key]:
                                found = leaves_alone(self, shares_in, model, facts, tables, block, stand)
                                self.assertEqual(found, plain_shares_in(model, facts, tables, block, stand))
                                if n < 7:
                                    self.assert_hold(found, things_of(model, facts, block, stand), bits)
                                met += 1
        self.assertGreater(met, 2000)

    def assert_hold(self, found, exact, bits):
        self.assertEqual([thing for thing, _ in found], [thing for thing, _ in exact])
        for (_, number), (_, share) in zip(found, exact):
            self.assertTrue(holds(number, share))
            if bits == 2000:
                self.assertEqual(number, (share, share, 0))

    def test_by_tables_that_nobody_would_make(self):
        wide = {
            2: {(1, 0, 2): (0, 7, 9), (0, 0, 1): (3, 3, 1), (0, 1, 1): (0, 0, 0)},
            (0, 3): {(0, 1, 2): (2, 5, 4), (0, 0, 1): (1, 2, 3), (1, 0, 0): (4, 4, 4)},
            (2, 3): {(1, 1, 1): (1, 9, 5), (1, 0, 0): (0, 1, 0)},
        }
        facts = ((2, 3, (0, 1)),)
        self.assertEqual(shares_in(MODEL, facts, wide, (), 3), [((0, 0, 1), (1, 2, 3)), ((0, 1, 2), (2, 5, 4))])
        self.assertEqual(shares_in(MODEL, facts, wide, (0, 3), (0, 1, 2)), [((1, 1, 1), (0, 0, 5))])
        self.assertEqual(shares_in(MODEL, facts, wide, (0, 3), (0, 0, 1)), [((1, 1, 0), (0, 0, 0))])
        self.assertEqual(shares_in(MODEL, facts, wide, (0, 3), (1, 1, 0)), [])
        heavy = (CAP, (7, 5), (1, 3), MODEL[3])
        self.assertEqual(shares_in(heavy, facts, wide, (), 3), [
            ((0, 0, 1), (7, 14, 3)), ((0, 1, 2), (42, 105, 4)), ((1, 0, 0), (20, 20, 4)),
        ])

    def test_a_letter_hangs_on_no_table(self):
        several = (FIRSTS[:1] + ((("a", 1), ("b", 1), ("c", 2)),), (1, 1), (1, 1), (
            (0, "a", 1, 5), (0, "b", 1, 10 ** 6), (0, "c", 1, 7), (1, "a", 0, 3),
        ))
        for tables in ({}, {1: {}}, {1: {(0, 1, 1): (0, 9, 9)}}):
            self.assertEqual(
                shares_in(several, (), tables, (FAR - 1, FAR), (0, 1, 1)), [("a", (5, 5, 0)), ("b", (10 ** 6, 10 ** 6, 0))]
            )
            self.assertEqual(shares_in(several, (), tables, (3, 4), (0, 1, 2)), [("c", (7, 7, 0))])
            self.assertEqual(shares_in(several, (), tables, (3, 4), (1, 1, 1)), [])

    def test_what_is_returned_is_new(self):
        tables = made_tables(MODEL, (), [(0, 4)], 20)
        first = shares_in(MODEL, (), tables, (), 4)
        again = list(first)
        first.clear()
        self.assertEqual(shares_in(MODEL, (), tables, (), 4), again)
        tables[4][(0, 0, 0)] = (1, 1, 0)
        self.assertEqual(shares_in(MODEL, (), tables, (), 4)[0], ((0, 0, 0), (1, 1, 0)))

    def test_at_very_many_places(self):
        facts = ((5, FAR - 7, (2,)),)
        tables = made_tables(MODEL, facts, [(0, FAR)], 30)
        for name, stand in (((), FAR), ((0, FAR), (0, 1, 2)), ((5, FAR - 7), (0, 0, 2)), ((5, FAR), (0, 1, 2))):
            self.assertEqual(
                shares_in(MODEL, facts, tables, name, stand), plain_shares_in(MODEL, facts, tables, name, stand)
            )


class Both(unittest.TestCase):
    def test_what_is_too_close_is_opened_as_far(self):
        row = PlainRow(MODEL, 8, (), (0, ()), 4)
        self.assertRaises(TooClose, row.ask, ("measure", 2, 7))
        things = tuple([(name, thing) for name, _, thing in row.steps])
        self.assertIsNone(answer_by(CAP, 8, (), ("measure", 2, 7), things))


if __name__ == "__main__":
    unittest.main()
