"""[7], [32]: CHANCES, held against all WORDS of short rows, and against the words of the document for long ones."""

import itertools
import random
import unittest
from fractions import Fraction

from tests.helpers import (
    CAP, FIRSTS, ONE, PARITY, cross, leaves_alone, meets, some_facts, weight_by_walks, words_of_length,
    words_up_to,
)
from tests.plain_rows import PlainRow, plain_halves, plain_tree
from tests.test_enclosures import plain_around
from tests.test_rows import MODEL, MODELS, outcome
from tests.test_tables import plain_tables
from unwrittenrow.chances import (
    chance_between, chance_of_fact, chance_of_facts, chance_of_word, share_by_coins, total_around,
)
from unwrittenrow.enclosures import compared, holds
from unwrittenrow.errors import Crossing, NoRow
from unwrittenrow.forms import is_enclosure, is_fraction
from unwrittenrow.rows import row_of
from unwrittenrow.weights import total_under

FAR = 2 ** 200
DEAD = (PARITY, (1,), (0,), ((0, "a", 0, 1),))
EVEN = (PARITY, (1, 0), (1, 0), ((0, "a", 1, 1), (0, "b", 1, 2), (1, "a", 0, 1)))


def of_fraction(one):
    return Fraction(one[0], one[1])


def plain_total(model, n, facts):
    return sum(weight_by_walks(model, word) for word in words_of_length("ab", n) if meets(model[0], word, facts))


def told(test, call, *arguments):
    """Return what a call returns, a FRACTION, as Python's own; `None` if there is no row."""
    try:
        found = leaves_alone(test, call, *arguments)
    except NoRow:
        return None
    test.assertTrue(is_fraction(found))
    return of_fraction(found)


def cases(seed, sizes):
    chance = random.Random(seed)
    for model in MODELS + [DEAD, EVEN]:
        for n in sizes:
            for facts in ((), some_facts(chance, model[0], n, 4, 0.3) if n else ()):
                yield model, n, facts, chance


class Exact(unittest.TestCase):
    def test_chances_of_words(self):
        none = 0
        for model, n, facts, chance in cases(51, (0, 1, 3)):
            total = plain_total(model, n, facts)
            chances = []
            for word in words_up_to("ab", n + 1):
                found = told(self, chance_of_word, model, n, facts, word)
                comes = len(word) == n and meets(model[0], word, facts)
                expected = Fraction(weight_by_walks(model, word) if comes else 0, total) if total else None
                self.assertEqual(found, expected, (model, n, facts, word))
                chances.append(found)
            if total:
                self.assertEqual(sum(chances), 1)
            none += not total
        self.assertGreater(none, 10)

    def test_chances_of_facts(self):
        none = 0
        for model, n, facts, chance in cases(52, (0, 1, 2, 4)):
            total, some = plain_total(model, n, ()), plain_total(model, n, facts)
            found = told(self, chance_of_facts, model, n, facts)
            self.assertEqual(found, Fraction(some, total) if total else None)
            none += not total
        self.assertGreater(none, 10)

    def test_chances_of_one_more_fact(self):
        met = {"returned": 0, "no row": 0, "crossing": 0}
        for model, n, facts, chance in cases(53, (1, 2, 4)):
            for _ in range(6):
                i = chance.randrange(n)
                j = chance.randint(i + 1, n)
                members = range(len(model[0][0]))
                fact = (i, j, tuple([x for x in members if chance.random() < 0.6]))
                if facts and chance.random() < 0.3:
                    fact = chance.choice(facts)[:2] + fact[2:]
                if any(cross(fact[:2], other[:2]) for other in facts):
                    with self.assertRaises(Crossing) as caught:
                        chance_of_fact(model, n, facts, fact)
                    self.assertIs(caught.exception.fact, fact)
                    met["crossing"] += 1
                    continue
                both = [word for word in words_of_length("ab", n)
                        if meets(model[0], word, facts) and meets(model[0], word, (fact,))]
                total = plain_total(model, n, facts)
                found = told(self, chance_of_fact, model, n, facts, fact)
                expected = Fraction(sum(weight_by_walks(model, word) for word in both), total) if total else None
                self.assertEqual(found, expected)
                met["returned" if total else "no row"] += 1
        self.assertGreater(min(met.values()), 10)

    def test_crossing_ahead_of_no_row(self):
        facts = ((0, 2, ()),)
        self.assertRaises(NoRow, chance_of_fact, MODEL, 3, facts, (0, 1, (0,)))
        self.assertRaises(Crossing, chance_of_fact, MODEL, 3, facts, (1, 3, (0,)))
        self.assertRaises(Crossing, chance_of_fact, DEAD, 3, ((0, 2, (0,)),), (1, 3, (0,)))
        self.assertRaises(NoRow, chance_of_fact, DEAD, 3, ((0, 2, (0,)),), (0, 2, (1,)))

    def test_no_row_whatever_the_word_is(self):
        for word in ("", "a", "ab", "abb", "abbb"):
            self.assertRaises(NoRow, chance_of_word, DEAD, 3, (), word)
            self.assertRaises(NoRow, chance_of_word, MODEL, 3, ((0, 3, ()),), word)
            self.assertRaises(NoRow, chance_of_word, EVEN, 3, (), word)
            for d in (0, 5):
                self.assertRaises(NoRow, share_by_coins, DEAD, 3, (), word, d)
                self.assertRaises(NoRow, share_by_coins, MODEL, 3, ((1, 2, ()),), word, d)
        self.assertRaises(NoRow, chance_of_facts, EVEN, 5, ())
        self.assertEqual(chance_of_facts(MODEL, 3, ((0, 3, ()),)), (0, 1))
        self.assertRaises(NoRow, chance_between, EVEN, 5, (), 40, 9)

    def test_no_places(self):
        self.assertEqual(chance_of_word(MODEL, 0, (), ""), (1, 1))
        self.assertEqual(chance_of_word(MODEL, 0, (), "a"), (0, 1))
        self.assertRaises(NoRow, chance_of_word, DEAD, 0, (), "")
        self.assertRaises(NoRow, chance_of_facts, DEAD, 0, ())

    def test_some_thousand_places(self):
        fair = (PARITY, (1,), (1,), ((0, "a", 0, 1), (0, "b", 0, 1)))
        self.assertEqual(chance_of_word(fair, 3000, (), "ab" * 1500), (1, 2 ** 3000))
        self.assertEqual(chance_of_word(fair, 3000, ((0, 1000, (0,)), (7, 9, (1,))), "ab" * 1500), (1, 2 ** 2998))
        self.assertEqual(chance_of_facts(fair, 3000, ((5, 2999, (0,)),)), (1, 2))
        self.assertEqual(chance_of_fact(fair, 3000, ((5, 2999, (0,)),), (6, 2999, (1,))), (1, 2))
        self.assertEqual(chance_of_fact(fair, 3000, ((5, 2999, (0,)),), (5, 2999, (1,))), (0, 1))


def plain_total_around(model, n, facts, bits):
    tables = plain_tables(model, facts, n, bits)
    key = (0, n) if facts else n
    low = high = 0
    for (p, q, _), (its_low, its_high, e) in tables[key].items():
        low += model[1][p] * model[2][q] * its_low << e
        high += model[1][p] * model[2][q] * its_high << e
    return plain_around(low, high, bits)


def plain_between(every, some, digits):
    """Return the two bounds by going through all k."""
    value = [Fraction(one[at]) * 2 ** one[2] for one in (every, some) for at in (0, 1)]
    scale = 2 ** digits
    least = max(k for k in range(scale + 1) if k * value[1] <= scale * value[2])
    most = [k for k in range(scale + 1) if k * value[0] >= scale * value[3]]
    return Fraction(least, scale), Fraction(most[0], scale) if most else Fraction(1)


class Around(unittest.TestCase):
    def test_totals_to_the_last_digit(self):
        nought = 0
        for model, n, facts, chance in cases(54, (1, 2, 5)):
            for bits in (1, 2, 3, 8, 20, 64, 2000):
                found = leaves_alone(self, total_around, model, n, facts, bits)
                self.assertTrue(is_enclosure(found))
                self.assertEqual(found, plain_total_around(model, n, facts, bits))
                total = plain_total(model, n, facts)
                self.assertTrue(holds(found, total))
                self.assertIs(found == (0, 0, 0), total == 0)
                nought += total == 0
                if bits == 2000:
                    self.assertEqual(found, (total, total, 0))
        self.assertGreater(nought, 50)

    def test_bounds_to_the_last_digit(self):
        none = 0
        for model, n, facts, chance in cases(55, (1, 2, 5)):
            if plain_total(model, n, ()) == 0:
                self.assertRaises(NoRow, chance_between, model, n, facts, 9, 3)
                none += 1
                continue
            for bits in (1, 2, 5, 9, 40):
                every, some = total_around(model, n, (), bits), total_around(model, n, facts, bits)
                for digits in (0, 1, 4, 7):
                    found = leaves_alone(self, chance_between, model, n, facts, bits, digits)
                    self.assertTrue(is_fraction(found[0]) and is_fraction(found[1]))
                    bounds = (of_fraction(found[0]), of_fraction(found[1]))
                    self.assertEqual(bounds, plain_between(every, some, digits), (model, n, facts, bits, digits))
                    exact = Fraction(plain_total(model, n, facts), plain_total(model, n, ()))
                    self.assertLessEqual(bounds[0], exact)
                    self.assertLessEqual(exact, bounds[1])
        self.assertGreater(none, 3)

    def test_more_bits_and_digits_are_nearer(self):
        for model, n, facts, chance in cases(56, (3, 6)):
            if plain_total(model, n, ()) == 0:
                continue
            exact = Fraction(plain_total(model, n, facts), plain_total(model, n, ()))
            for digits in (10, 100, 2000):
                low, high = [of_fraction(one) for one in chance_between(model, n, facts, 3000, digits)]
                self.assertTrue(low <= exact <= high)
                self.assertLessEqual(high - low, Fraction(1, 2 ** digits))

    def test_impossible_facts(self):
        for bits in (1, 2, 9, 300):
            for n in (3, 1000, FAR):
                facts = ((0, n, ()),)
                self.assertEqual(total_around(MODEL, n, facts, bits), (0, 0, 0))
                self.assertEqual(chance_between(MODEL, n, facts, bits, 6), ((0, 1), (0, 1)))
        self.assertEqual(total_around(DEAD, FAR, (), 9), (0, 0, 0))
        self.assertEqual(total_around(EVEN, FAR - 1, (), 9), (0, 0, 0))
        self.assertNotEqual(total_around(EVEN, FAR, (), 9), (0, 0, 0))

    def test_very_many_places(self):
        odds = (PARITY, (1,), (1,), ((0, "a", 0, 1), (0, "b", 0, 2)))
        chance = random.Random(57)
        for _ in range(6):
            i = chance.randrange(FAR - 40)
            j = i + chance.randint(1, 40)
            # The chance that the b among k LETTERS are odd in number is told by (1 - 3 ** -k) by 2, up to a sign.
            exact = Fraction(1, 2) - Fraction((-1) ** (j - i), 2 * 3 ** (j - i))
            for digits in (0, 20, 200):
                found = chance_between(odds, FAR, ((i, j, (1,)),), 500, digits)
                low, high = [of_fraction(one) for one in found]
                self.assertTrue(low <= exact <= high)
                self.assertLessEqual(high - low, Fraction(2, 2 ** digits))
        whole = chance_between(odds, FAR, ((0, FAR, (1,)),), 500, 100)
        self.assertEqual([of_fraction(one) for one in whole][0] <= Fraction(1, 2), True)
        self.assertEqual(chance_between(MODEL, FAR, (), 300, 0)[1], (1, 1))

    def test_few_bits_of_very_many_places(self):
        # With few bits the ENCLOSURES are as wide as can be, and their powers of two far apart.
        for bits in (1, 2, 5, 20):
            for facts in ((), ((5, 9, (1,)),), ((0, FAR, (2,)),), ((0, FAR, (0,)),)):
                every, some = total_around(MODEL, FAR, (), bits), total_around(MODEL, FAR, facts, bits)
                for digits in (0, 3):
                    (a, b), (c, d) = chance_between(MODEL, FAR, facts, bits, digits)
                    self.assertTrue(0 <= Fraction(a, b) <= Fraction(c, d) <= 1)
                    k, scale = a * 2 ** digits // b, 2 ** digits
                    at_most = lambda k: compared([(k * every[1], every[2])], [(scale * some[0], some[2])]) <= 0
                    self.assertTrue(at_most(k) and (k == scale or not at_most(k + 1)))
                    k = c * 2 ** digits // d
                    at_least = lambda k: compared([(k * every[0], every[2])], [(scale * some[1], some[2])]) >= 0
                    self.assertTrue((at_least(k) or k == scale) and (k == 0 or not at_least(k - 1)))


class ByCoins(unittest.TestCase):
    def plain_share(self, row, word, d):
        """Return the share of all ways by going through all BEGINNINGS of each NAME by itself."""
        def share_of(thing, things):
            shares = [share for _, share in things]
            index = [its for its, _ in things].index(thing)
            total, low = sum(shares), sum(shares[:index])
            made = [c for c in range(2 ** d) if low * 2 ** d <= c * total
                    and (c + 1) * total <= (low + shares[index]) * 2 ** d]
            return Fraction(len(made), 2 ** d)

        def of_block(block, stand):
            things = row.things(block, stand)
            if block[1] - block[0] == 1:
                letters = [letter for letter, _ in things]
                return share_of(word[block[0]], things) if word[block[0]] in letters else 0
            first, second = plain_halves(row.facts, block)
            return sum(
                share_of((r, x, y), things)
                * of_block(first, (stand[0], r, x)) * of_block(second, (r, stand[1], y))
                for (r, x, y), _ in things
            )

        things = row.things(())
        return sum(share_of(thing, things) * of_block((0, row.n), thing) for thing, _ in things)

    def test_against_all_ways(self):
        small = [
            (MODEL, 1, (), 1), (MODEL, 1, (), 3), (MODEL, 2, (), 1), (MODEL, 2, (), 2), (MODEL, 2, ((0, 2, (1,)),), 2),
            (MODEL, 3, (), 1), (MODEL, 3, ((0, 2, (1,)),), 1), (EVEN, 2, (), 3), (MODELS[0], 2, (), 2),
            (MODELS[9], 2, (), 1), ((ONE, (1,), (1,), ((0, "a", 0, 1), (0, "b", 0, 1))), 2, (), 3),
            ((ONE, (1,), (1,), ((0, "a", 0, 1), (0, "b", 0, 2))), 2, ((1, 2, (0,)),), 3),
        ]
        met = 0
        for model, n, facts, d in small:
            if not total_under(model, n, facts):
                continue
            names = [()] + sorted(plain_tree(n, facts))
            times, ways = {}, 0
            for truths in itertools.product((False, True), repeat=d * len(names)):
                coins = (0, tuple([(name, k, truths[at * d + k]) for at, name in enumerate(names) for k in range(d)]))
                found = outcome(row_of, model, n, facts, coins, d)
                ways += 1
                if found[0] == "returned":
                    times[found[1]] = times.get(found[1], 0) + 1
            for word in words_of_length("ab", n):
                found = told(self, share_by_coins, model, n, facts, word, d)
                self.assertEqual(found, Fraction(times.get(word, 0), ways))
                met += found > 0
        self.assertGreater(met, 12)

    def test_against_each_name_by_itself(self):
        for model, n, facts, chance in cases(58, (1, 2, 4)):
            if not total_under(model, n, facts):
                continue
            row = PlainRow(model, n, facts, (0, ()), 9)
            for word in chance.sample(words_of_length("ab", n), 2):
                comes = meets(model[0], word, facts)
                for d in (0, 1, 3, 5):
                    found = told(self, share_by_coins, model, n, facts, word, d)
                    self.assertEqual(found, self.plain_share(row, word, d) if comes else 0)

    def test_it_comes_near_to_the_chance_from_below(self):
        for model, n, facts, chance in cases(59, (1, 3, 5)):
            if not total_under(model, n, facts):
                continue
            for word in chance.sample(words_of_length("ab", n), 2):
                exact = of_fraction(chance_of_word(model, n, facts, word))
                shares = [of_fraction(share_by_coins(model, n, facts, word, d)) for d in (0, 1, 2, 5, 20, 60)]
                self.assertEqual(shares, sorted(shares))
                self.assertLessEqual(shares[-1], exact)
                self.assertLess(exact - shares[-1], Fraction(1, 2 ** 40))

    def test_words_that_cannot_come(self):
        for word in ("", "a", "abab", "bb", "aaaa"):
            self.assertEqual(share_by_coins(MODEL, 3, (), word, 9), (0, 1))
        self.assertEqual(share_by_coins(MODEL, 3, ((0, 2, (1,)),), "aab", 60), (0, 1))

    def test_forty_places(self):
        facts = ((0, 40, (2,)), (3, 9, (1,)), (30, 31, (0,)))
        word = "aaabaaaaabab" + "a" * 28
        exact = of_fraction(chance_of_word(MODEL, 40, facts, word))
        found = of_fraction(share_by_coins(MODEL, 40, facts, word, 60))
        self.assertGreater(exact, 0)
        self.assertTrue(0 < found <= exact)
        self.assertLess(exact - found, exact / 2 ** 30)
        wide = (FIRSTS, (1,) * 6, (1,) * 6, tuple(sorted(
            (p, letter, q, 1 + p + 2 * q) for p in range(6) for letter in "ab" for q in range(6)
        )))
        self.assertGreater(share_by_coins(wide, 40, (), "ab" * 20, 60)[0], 0)

    def test_one_thing_needs_no_coins(self):
        alone = (CAP, (1,), (1,), ((0, "a", 0, 7),))
        self.assertEqual(share_by_coins(alone, 5, (), "aaaaa", 0), (1, 1))
        self.assertEqual(share_by_coins(MODEL, 3, (), "aaa", 0), (0, 1))


if __name__ == "__main__":
    unittest.main()
