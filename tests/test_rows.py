"""[5], [7], [8], [28]: the ROW, held against V by all WORDS and WALKS, and its CHOICES made by their inequalities."""

import itertools
import random
import unittest
from fractions import Fraction

from tests.helpers import (
    CAP, FIRSTS, LASTS, LONELY, ONE, PARITY, leaves_alone, meets, some_facts, some_measures, some_models, weight_by_walks,
    words_of_length,
)
from tests.plain_rows import PlainRow, all_asks, ideals, plain_made, plain_meaning, plain_tree, plain_weights
from unwrittenrow.coins import with_told
from unwrittenrow.errors import NoRow, TooClose
from unwrittenrow.rows import answer_of, first_things, opened, row_of, stand_of, things_of
from unwrittenrow.weights import total_under

MODEL = (CAP, (1, 0), (1, 1), ((0, "a", 0, 3), (0, "b", 1, 1), (1, "a", 0, 2), (1, "b", 1, 1)))
MODELS = (
    some_models(81, 8) + some_models(82, 6, CAP, 3) + some_models(83, 6, FIRSTS, 2, 10 ** 6) + some_models(84, 3, LONELY)
    + some_models(86, 6, LASTS, 2) + [MODEL] + [model for at, measure in enumerate(some_measures(85, 6)) for model in some_models(at, 1, measure)]
)


def some_coins(chance, facts, n, many):
    """Return COINS, some of which are told: of NAMES of the TREE, and of other ones."""
    names = [()] + plain_tree(n, facts) + [(0, n + 1), (n, n + 1), (1, n + 3)]
    told = {(chance.choice(names), chance.choice((0, 0, 1, 2, 9))): chance.random() < 0.5 for _ in range(many)}
    return (chance.randrange(10 ** 40), tuple([(name, k, told[(name, k)]) for name, k in sorted(told)]))


def cases(seed, sizes=(1, 2, 3, 5)):
    """Yield (model, n, facts, chance), Z(n, facts) being above 0."""
    chance = random.Random(seed)
    for model in MODELS:
        for n in sizes:
            for facts in ((), some_facts(chance, model[0], n, 4)):
                if total_under(model, n, facts):
                    yield model, n, facts, chance


def outcome(call, *arguments):
    """Return what a call returns, or the error that it raises, with its name."""
    try:
        return ("returned", call(*arguments))
    except TooClose as error:
        return ("too close", error.name)
    except NoRow:
        return ("no row",)


class Things(unittest.TestCase):
    def test_first_things(self):
        empty = 0
        chance = random.Random(1)
        for model in MODELS:
            for n in (1, 2, 4):
                for facts in ((), some_facts(chance, model[0], n, 4, 0.5), ((0, n, ()),)):
                    expected = PlainRow(model, n, facts, (0, ()), 9).things(())
                    found = leaves_alone(self, first_things, model, n, facts)
                    self.assertEqual(found, expected)
                    self.assertIs(type(found), list)
                    total = sum(
                        weight_by_walks(model, word) for word in words_of_length("ab", n) if meets(model[0], word, facts)
                    )
                    self.assertEqual(sum(share for _, share in found), total)
                    empty += found == []
        self.assertGreater(empty, 20)

    def test_things_of_all_blocks_and_stands(self):
        met = 0
        for model, n, facts, chance in cases(2, (1, 2, 4)):
            row = PlainRow(model, n, facts, (0, ()), 9)
            for block in plain_tree(n, facts):
                for stand in row.weights(block):
                    found = leaves_alone(self, things_of, model, facts, block, stand)
                    self.assertEqual(found, row.things(block, stand))
                    self.assertEqual(sum(share for _, share in found), row.weights(block)[stand])
                    self.assertTrue(found)
                    met += 1
        self.assertGreater(met, 300)

    def test_of_a_block_far_away(self):
        far = 2 ** 199
        facts = ((far + 1, far + 3, (1,)),)
        near = ((1, 3, (1,)),)
        for stand in plain_weights(MODEL, near, (0, 4)):
            self.assertEqual(things_of(MODEL, facts, (far, far + 4), stand), things_of(MODEL, near, (0, 4), stand))
        found = things_of(MODEL, facts, (far, far + 4), (0, 0, 1))
        found.clear()
        self.assertEqual(things_of(MODEL, facts, (far, far + 4), (0, 0, 1)), things_of(MODEL, near, (0, 4), (0, 0, 1)))


class TheRow(unittest.TestCase):
    def test_opened_and_answers_of_all_asks(self):
        met = {"returned": 0, "too close": 0}
        kinds = set()
        for model, n, facts, chance in cases(3, (1, 2, 4)):
            for most in (60, 3, 0):
                coins = some_coins(chance, facts, n, chance.choice((0, 5)))
                row = PlainRow(model, n, facts, coins, most)
                asks = all_asks(model[0], n)
                for ask in chance.sample(asks, min(len(asks), 25)):
                    expected = outcome(row.ask, ask)
                    self.assertEqual(outcome(answer_of, model, n, facts, coins, ask, most), expected)
                    if expected[0] == "returned":
                        found = leaves_alone(self, opened, model, n, facts, coins, ask, most)
                        self.assertEqual(found, row.steps, (model, n, facts, coins, ask, most))
                        self.assertIs(type(found), list)
                        kinds.add(ask[0])
                    else:
                        self.assertEqual(outcome(opened, model, n, facts, coins, ask, most), expected)
                    met[expected[0]] += 1
        self.assertGreater(min(met.values()), 300)
        self.assertEqual(len(kinds), 5)

    def test_all_answers_are_those_of_one_row(self):
        rows = set()
        for model, n, facts, chance in cases(4, (1, 3, 6)):
            coins = some_coins(chance, facts, n, 3)
            try:
                word = row_of(model, n, facts, coins, 200)
            except TooClose:
                continue
            rows.add(word)
            self.assertEqual(len(word), n)
            self.assertTrue(meets(model[0], word, facts))
            self.assertGreater(weight_by_walks(model, word), 0)
            asks = all_asks(model[0], n)
            chance.shuffle(asks)
            for ask in asks[:40]:
                found = answer_of(model, n, facts, coins, ask, 200)
                self.assertEqual(found, plain_meaning(model[0], word, ask), (model, n, facts, coins, ask))
            for block in plain_tree(n, facts):
                p, q, m = stand_of(model, n, facts, coins, block, 200)
                self.assertEqual(m, plain_meaning(model[0], word, ("measure",) + block))
                self.assertEqual((p, q, m), PlainRow(model, n, facts, coins, 200).stand_of(block))
        self.assertGreater(len(rows), 20)

    def test_stands_follow_one_another(self):
        for model, n, facts, chance in cases(5, (2, 5)):
            coins = (chance.randrange(1000), ())
            stands = [stand_of(model, n, facts, coins, (x, x + 1), 300) for x in range(n)]
            for one, other in itertools.pairwise(stands):
                self.assertEqual(one[1], other[0])
            whole = leaves_alone(self, stand_of, model, n, facts, coins, (0, n), 300)
            self.assertEqual((stands[0][0], stands[-1][1]), whole[:2])
            self.assertGreater(model[1][whole[0]] * model[2][whole[1]], 0)

    def test_stand_of_asks_for_the_greater_blocks_alone(self):
        # Nothing is made in the CHOICE of (0, 8) by four COINS: its own STAND is told all the same.
        self.assertEqual(stand_of(MODEL, 8, (), (0, ()), (0, 8), 4), (0, 0, 2))
        for block in plain_tree(8, ())[1:]:
            self.assertEqual(outcome(stand_of, MODEL, 8, (), (0, ()), block, 4), ("too close", (0, 8)))
        met = {"returned": 0, "too close": 0}
        for model, n, facts, chance in cases(6, (3, 4)):
            for most in (1, 3, 5):
                coins = some_coins(chance, facts, n, 4)
                row = PlainRow(model, n, facts, coins, most)
                for block in plain_tree(n, facts):
                    expected = outcome(row.stand_of, block)
                    self.assertEqual(outcome(stand_of, model, n, facts, coins, block, most), expected)
                    met[expected[0]] += 1
        self.assertGreater(min(met.values()), 100)

    def test_empty_stretches_open_the_first_name_alone(self):
        for model, n, facts, chance in cases(7, (1, 4)):
            coins = (chance.randrange(1000), ())
            first = PlainRow(model, n, facts, coins, 200)
            thing = first.make(())
            for i in range(n + 1):
                for ask, answer in (
                    (("letters", i, i), ""), (("measure", i, i), 0), (("first", i, i, ideals(model[0], True)[-1]), None),
                    (("last", i, i, ideals(model[0], False)[-1]), None), (("first", i, i, ()), None),
                ):
                    self.assertEqual(opened(model, n, facts, coins, ask, 200), first.steps)
                    self.assertEqual(answer_of(model, n, facts, coins, ask, 200), answer)
            self.assertEqual(first.steps[0][2], thing)

    def test_no_row_ahead_of_too_close(self):
        dead = (PARITY, (1,), (0,), ((0, "a", 0, 1),))
        ask = ("letter", 0)
        for call in (answer_of, opened):
            self.assertEqual(outcome(call, dead, 3, (), (0, ()), ask, 0), ("no row",))
            self.assertEqual(outcome(call, MODEL, 3, ((0, 2, ()),), (0, ()), ask, 0), ("no row",))
            self.assertEqual(outcome(call, MODEL, 3, (), (0, ()), ask, 0), ("too close", ()))
        self.assertEqual(outcome(row_of, dead, 3, (), (0, ()), 0), ("no row",))
        self.assertEqual(outcome(row_of, MODEL, 3, (), (0, ()), 0), ("too close", ()))
        self.assertEqual(outcome(stand_of, dead, 3, (), (0, ()), (0, 3), 0), ("no row",))
        self.assertEqual(outcome(stand_of, MODEL, 3, (), (0, ()), (0, 3), 0), ("too close", ()))

    def test_the_least_d_and_most_from_nought_on(self):
        for model, n, facts, chance in cases(8, (2, 4)):
            coins = (chance.randrange(10 ** 6), ())
            ask = ("letters", 0, n)
            steps = opened(model, n, facts, coins, ask, 300)
            for most in range(max(d for _, d, _ in steps) + 2):
                found = outcome(opened, model, n, facts, coins, ask, most)
                late = [name for name, d, _ in steps if d > most]
                self.assertEqual(found, ("too close", late[0]) if late else ("returned", steps))

    def test_coins_along_a_border(self):
        # 0, 1, 0, 1 .. runs along the border behind a third part.
        arcs = ((0, "a", 0, 1), (0, "b", 0, 2))
        for measure, name, n in ((PARITY, (), 1), (ONE, (0, 1), 1), (ONE, (2, 3), 4)):
            thirds = (measure, (1,), (1,), arcs)
            coins = (1, tuple([(name, k, k % 2 == 1) for k in range(60)]))
            met = {True: 0, False: 0}
            for ask in all_asks(measure, n):
                expected = outcome(PlainRow(thirds, n, (), coins, 55).ask, ask)
                self.assertEqual(outcome(answer_of, thirds, n, (), coins, ask, 55), expected)
                self.assertIn(expected, [("too close", name), ("returned", expected[1])])
                met[expected[0] == "returned"] += 1
            self.assertGreater(met[False], 0)
            # An ASK that passes this NAME over is answered.
            self.assertEqual(met[True] > 0, name != ())
        for call, rest in ((answer_of, (("letter", 2), 59)), (row_of, (59,)), (answer_of, (("letters", 1, 3), 59))):
            self.assertEqual(outcome(call, thirds, 4, (), coins, *rest), ("too close", (2, 3)))
        for ask in (("letter", 1), ("letters", 0, 2), ("letter", 3), ("measure", 0, 4), ("measure", 2, 3), ("measure", 1, 4)):
            self.assertEqual(outcome(answer_of, thirds, 4, (), coins, ask, 59)[0], "returned")
        self.assertEqual(stand_of(thirds, 4, (), coins, (2, 3), 59), (0, 0, 0))

    def test_other_names_change_nothing(self):
        met = 0
        for model, n, facts, chance in cases(9, (2, 4)):
            coins = (chance.randrange(10 ** 6), ())
            for ask in chance.sample(all_asks(model[0], n), 6):
                steps = opened(model, n, facts, coins, ask, 300)
                names = [name for name, _, _ in steps]
                other = coins
                for name in plain_tree(n, facts) + [(n, n + 2)]:
                    if name not in names:
                        other = with_told(other, name, tuple([chance.random() < 0.5 for _ in range(4)]))
                        met += 1
                self.assertEqual(opened(model, n, facts, other, ask, 300), steps)
                # The COINS behind those that show what is MADE change nothing either.
                for name, d, _ in steps:
                    truths = [chance.random() < 0.5 for _ in range(3)]
                    told = [one for one in other[1]] + [(name, d + k, truth) for k, truth in enumerate(truths)]
                    other = (other[0], tuple(sorted(told)))
                self.assertEqual(opened(model, n, facts, other, ask, 300), steps)
        self.assertGreater(met, 100)

    def test_facts_of_all_kinds(self):
        lots = {
            "one in another": ((0, 6, (1, 2)), (1, 5, (0, 1)), (2, 4, (1,)), (2, 3, (0,))),
            "side by side": ((0, 2, (1,)), (2, 3, (0,)), (3, 6, (0, 2))),
            "one place": ((4, 5, (1,)),),
            "the whole row": ((0, 6, (1,)),),
            "a first part and its own first part": ((0, 4, (1,)), (0, 2, (0,)), (0, 1, (0,))),
        }
        for facts in lots.values():
            for seed in range(12):
                coins = (seed, ())
                word = row_of(MODEL, 6, facts, coins, 200)
                self.assertTrue(meets(CAP, word, facts))
                row = PlainRow(MODEL, 6, facts, coins, 200)
                self.assertEqual(row.ask(("letters", 0, 6)), word)
                for fact in facts:
                    self.assertIn(answer_of(MODEL, 6, facts, coins, ("measure",) + fact[:2], 200), fact[2])
                    self.assertIn(stand_of(MODEL, 6, facts, coins, fact[:2], 200)[2], fact[2])

    def test_facts_that_are_taken_back_leave_nothing(self):
        plain = [row_of(MODEL, 6, (), (seed, ()), 200) for seed in range(20)]
        told = [row_of(MODEL, 6, ((1, 4, (1,)),), (seed, ()), 200) for seed in range(20)]
        self.assertNotEqual(plain, told)
        self.assertEqual([row_of(MODEL, 6, (), (seed, ()), 200) for seed in range(20)], plain)

    def test_the_same_again_behind_a_change_of_what_was_told(self):
        model, n, facts = MODEL, 6, ((1, 4, (1,)),)
        first = [opened(model, n, facts, (seed, ()), ("letters", 1, 5), 200) for seed in range(6)]
        kept = [list(steps) for steps in first]
        for steps in first:
            steps.clear()
        things = things_of(model, facts, (1, 4), (0, 0, 1))
        again = list(things)
        things.append("x")
        self.assertEqual(things_of(model, facts, (1, 4), (0, 0, 1)), again)
        self.assertEqual([opened(model, n, facts, (seed, ()), ("letters", 1, 5), 200) for seed in range(6)], kept)

    def test_some_thousand_places(self):
        facts = ((17, 1900, (2,)), (40, 41, (1,)), (2000, 2003, (0,)))
        chance = random.Random(10)
        coins = (10 ** 39 + 7, ())
        word = "".join(
            answer_of(MODEL, 3000, facts, coins, ("letters", i, i + 200), 400) for i in range(0, 3000, 200)
        )
        self.assertTrue(meets(CAP, word, facts))
        for _ in range(25):
            i = chance.randrange(3001)
            j = chance.randint(i, 3000)
            for ask in (("measure", i, j), ("first", i, j, (2,)), ("last", i, j, (1, 2)), ("letters", i, min(i + 9, j))):
                self.assertEqual(answer_of(MODEL, 3000, facts, coins, ask, 400), plain_meaning_fast(word, ask))
        # Some four NAMES for each time that n can be halved, and a few under FACTS.
        self.assertLess(len(opened(MODEL, 3000, (), coins, ("measure", 777, 2222), 400)), 4 * 12)
        self.assertLess(len(opened(MODEL, 3000, (), coins, ("first", 777, 2222, (2,)), 400)), 4 * 12)

    def test_by_a_great_seed_and_many_coins(self):
        big = (FIRSTS, (10 ** 6, 999983), (1, 10 ** 6), tuple(sorted(
            (p, letter, q, 10 ** 6 - p - 2 * q) for p in range(2) for letter in "ab" for q in range(2)
        )))
        word = row_of(big, 200, (), (10 ** 40 - 1, ()), 400)
        self.assertEqual(len(word), 200)
        self.assertEqual(answer_of(big, 200, (), (10 ** 40 - 1, ()), ("measure", 0, 200), 400), 1 if word[0] == "a" else 2)


def plain_meaning_fast(word, ask):
    """Return what an ASK means for a long WORD by CAP: how many b there are, up to 2."""
    kind, i, j = ask[:3]
    if kind == "letters":
        return word[i:j]
    if kind == "measure":
        return min(2, word[i:j].count("b"))
    places = [x for x in range(i, j) if word[x] == "b"]
    many = ask[3][0]
    if kind == "first":
        return places[many - 1] if len(places) >= many else None
    return places[-many] if len(places) >= many else None


class Chances(unittest.TestCase):
    def ways(self, names, d):
        for truths in itertools.product((False, True), repeat=d * len(names)):
            yield (0, tuple([
                (name, k, truths[at * d + k]) for at, name in enumerate(sorted(names)) for k in range(d)
            ]))

    def test_each_word_comes_by_at_most_its_chance(self):
        small = [
            (MODEL, 1, (), 3), (MODEL, 2, (), 1), (MODEL, 2, (), 2), (MODEL, 3, (), 1), (MODEL, 3, ((0, 2, (1,)),), 1),
            (MODELS[0], 2, (), 2), (MODELS[9], 2, (), 2), ((PARITY, (1,), (1,), ((0, "a", 0, 1), (0, "b", 0, 1))), 2, (), 2),
            (MODEL, 2, ((0, 2, (1,)),), 2), ((PARITY, (1,), (1,), ((0, "a", 0, 1), (0, "b", 0, 2))), 2, (), 3),
        ]
        came = 0
        for model, n, facts, d in small:
            if total_under(model, n, facts) == 0:
                continue
            names = [()] + plain_tree(n, facts)
            times, ways = {}, 0
            for coins in self.ways(names, d):
                found = outcome(row_of, model, n, facts, coins, d)
                ways += 1
                if found[0] == "returned":
                    times[found[1]] = times.get(found[1], 0) + 1
            self.assertEqual(ways, 2 ** (d * 2 * n))
            total = total_under(model, n, facts)
            for word, many in times.items():
                weight = weight_by_walks(model, word) if meets(model[0], word, facts) else 0
                self.assertGreater(weight, 0)
                self.assertLessEqual(Fraction(many, ways), Fraction(weight, total))
                came += 1
        self.assertGreater(came, 15)

    def test_all_beginnings_of_one_name(self):
        for model, n, facts, chance in cases(11, (2, 3)):
            row = PlainRow(model, n, facts, (0, ()), 3)
            shares = [share for _, share in row.things(())]
            for d in (1, 2, 3):
                none = 0
                for coins in self.ways([()], d):
                    made = plain_made(shares, coins, (), d)
                    found = outcome(opened, model, n, facts, coins, ("measure", 0, n), d)
                    if made is None:
                        none += 1
                        self.assertEqual(found, ("too close", ()))
                    else:
                        self.assertEqual(found, ("returned", [((), made[1], row.things(())[made[0]][0])]))
                self.assertLess(none, len(shares))


if __name__ == "__main__":
    unittest.main()
