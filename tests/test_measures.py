"""[14]: MEASURES and their LOTS."""

import itertools
import random
import unittest

from tests.helpers import (
    CAP, FIRSTS, LONELY, ONE, PARITY, leaves_alone, named_measures, renumbered, some_measures,
    words_up_to,
)
from unwrittenrow.errors import TooMany
from unwrittenrow.forms import is_lot, is_measure, letters_of
from unwrittenrow.measures import (
    beside, is_left_ideal, is_right_ideal, is_same, led_from, led_to, left_closed, measure_of,
    power_of, product, reached, right_closed,
)

MEASURES = named_measures() + some_measures(5, 40)


def all_lots(measure):
    """Return the LOTS of at most three MEMBERS, and that of all."""
    members = range(len(measure[0]))
    lots = [lot for many in range(4) for lot in itertools.combinations(members, many)]
    return lots + [tuple(members)]


class Products(unittest.TestCase):
    def test_what_is_used_here_are_measures(self):
        for measure in MEASURES:
            self.assertTrue(is_measure(measure), measure)
        self.assertEqual({len(measure[0]) for measure in MEASURES} & {1, 2, 3, 8}, {1, 2, 3, 8})
        self.assertTrue(any(reached(measure) != tuple(range(len(measure[0]))) for measure in MEASURES))
        self.assertNotEqual(product(FIRSTS, 1, 2), product(FIRSTS, 2, 1))

    def test_product(self):
        for measure in MEASURES:
            for x, y in itertools.product(range(len(measure[0])), repeat=2):
                self.assertEqual(leaves_alone(self, product, measure, x, y), measure[0][x][y])

    def test_measure_of_each_short_word(self):
        for measure in MEASURES:
            members = dict(measure[1])
            found = {"": 0}
            self.assertEqual(measure_of(measure, ""), 0)
            for word in words_up_to(letters_of(measure), 3)[1:]:
                found[word] = measure[0][found[word[:-1]]][members[word[-1]]]
                self.assertEqual(measure_of(measure, word), found[word])
                for at in range(len(word)):
                    apart = product(measure, measure_of(measure, word[:at]), measure_of(measure, word[at:]))
                    self.assertEqual(apart, found[word])

    def test_measure_of_long_words(self):
        self.assertEqual(measure_of(PARITY, "ab" * 2500), 0)
        self.assertEqual(measure_of(PARITY, "ab" * 2500 + "b"), 1)
        self.assertEqual(measure_of(CAP, "a" * 5000 + "b"), 1)
        self.assertEqual(measure_of(FIRSTS, "b" + "a" * 4000), 2)

    def test_power_of(self):
        for measure in MEASURES:
            for x in range(len(measure[0])):
                power = 0
                for n in range(20):
                    self.assertEqual(power_of(measure, x, n), power)
                    power = measure[0][power][x]
        cycle = MEASURES[5]
        for n in (2 ** 200, 2 ** 200 - 1, 10 ** 60 + 3, 2 ** 100 + 5):
            self.assertEqual(power_of(cycle, 3, n), 3 * n % 8)
            self.assertEqual(power_of(PARITY, 1, n), n % 2)
        self.assertEqual(power_of(CAP, 1, 2 ** 200), 2)

    def test_reached(self):
        for measure in MEASURES:
            many = 7 if len(measure[1]) <= 2 else 2
            found = {measure_of(measure, word) for word in words_up_to(letters_of(measure), many)}
            self.assertEqual(leaves_alone(self, reached, measure), tuple(sorted(found)))
        self.assertEqual(reached(LONELY), (0, 2))
        self.assertEqual(reached((PARITY[0], (("a", 0),))), (0,))


class Lots(unittest.TestCase):
    def test_ideals(self):
        for measure in MEASURES:
            members = range(len(measure[0]))
            for lot in all_lots(measure):
                right = all(measure[0][x][y] in lot for x in lot for y in members)
                left = all(measure[0][y][x] in lot for x in lot for y in members)
                self.assertIs(leaves_alone(self, is_right_ideal, measure, lot), right)
                self.assertIs(leaves_alone(self, is_left_ideal, measure, lot), left)
        self.assertEqual([is_right_ideal(FIRSTS, (1,)), is_left_ideal(FIRSTS, (1,))], [True, False])
        self.assertEqual([is_left_ideal(FIRSTS, (1, 2)), is_right_ideal(FIRSTS, ())], [True, True])

    def test_the_least_ideals(self):
        for measure in MEASURES:
            members = range(len(measure[0]))
            for lot in all_lots(measure):
                for closed, side in (
                    (right_closed, lambda x, y: measure[0][x][y]),
                    (left_closed, lambda x, y: measure[0][y][x]),
                ):
                    found = set(lot)
                    more = True
                    while more:
                        more = {side(x, y) for x in found for y in members} - found
                        found = found | more
                    self.assertEqual(leaves_alone(self, closed, measure, lot), tuple(sorted(found)))

    def test_led_from_and_led_to(self):
        for measure in MEASURES:
            members = range(len(measure[0]))
            for lot in all_lots(measure):
                for x in members:
                    onward = leaves_alone(self, led_from, measure, x, lot)
                    back = leaves_alone(self, led_to, measure, x, lot)
                    self.assertEqual(onward, tuple([y for y in members if measure[0][x][y] in lot]))
                    self.assertEqual(back, tuple([y for y in members if measure[0][y][x] in lot]))
                    self.assertTrue(is_lot(measure, onward) and is_lot(measure, back))
                    if is_right_ideal(measure, lot):
                        self.assertTrue(is_right_ideal(measure, onward))
                    if is_left_ideal(measure, lot):
                        self.assertTrue(is_left_ideal(measure, back))


def pairs_by_hand(one, other):
    """Return the pairs in the order that [14] tells."""
    letters = letters_of(one)
    met, words, at = [(0, 0)], [""], 0
    while at < len(met):
        for letter in letters:
            word = words[at] + letter
            pair = (measure_of(one, word), measure_of(other, word))
            if pair not in met:
                met.append(pair)
                words.append(word)
        at += 1
    return met


class TwoMeasures(unittest.TestCase):
    def of_the_same_letters(self):
        two = [measure for measure in MEASURES if letters_of(measure) == "ab"]
        return [(one, other) for one in two for other in two]

    def test_beside(self):
        sizes = {}
        for one, other in self.of_the_same_letters():
            pairs = pairs_by_hand(one, other)
            sizes[len(pairs)] = sizes.get(len(pairs), 0) + 1
            if len(pairs) > 8:
                with self.assertRaises(TooMany) as caught:
                    beside(one, other)
                self.assertEqual(caught.exception.most, 8)
                continue
            measure, found = leaves_alone(self, beside, one, other)
            self.assertEqual(found, tuple(pairs))
            self.assertTrue(is_measure(measure))
            self.assertEqual(letters_of(measure), "ab")
            for word in words_up_to("ab", 5):
                expected = (measure_of(one, word), measure_of(other, word))
                self.assertEqual(found[measure_of(measure, word)], expected)
        self.assertTrue(sizes[8] > 0 and sizes[9] > 0 and max(sizes) > 9)

    def test_beside_of_one_letter(self):
        def turning(k):
            return (tuple([tuple([(x + y) % k for y in range(k)]) for x in range(k)]), (("q", k - 1),))

        self.assertEqual(len(beside(turning(8), turning(4))[1]), 8)
        with self.assertRaises(TooMany):
            beside(turning(3), turning(5))

    def test_is_same(self):
        alike = {True: 0, False: 0}
        for one, other in self.of_the_same_letters():
            words = words_up_to("ab", 4)
            mine = [measure_of(one, word) for word in words]
            its = [measure_of(other, word) for word in words]
            expected = [mine.index(x) for x in mine] == [its.index(y) for y in its]
            self.assertIs(leaves_alone(self, is_same, one, other), expected)
            alike[expected] += 1
        self.assertTrue(alike[True] > len(MEASURES) - 5 and alike[False] > 0)

    def test_is_same_with_other_letters_and_numbers(self):
        self.assertIs(is_same(PARITY, (PARITY[0], (("a", 0), ("c", 1)))), False)
        self.assertIs(is_same(PARITY, (PARITY[0], (("a", 0),))), False)
        self.assertIs(is_same(ONE, named_measures()[-1]), False)
        chance = random.Random(3)
        for measure in MEASURES:
            order = list(range(1, len(measure[0])))
            chance.shuffle(order)
            self.assertIs(is_same(measure, renumbered(measure, [0] + order)), True)

    def test_is_same_looks_at_members_of_words_alone(self):
        within = (((0, 1), (1, 1)), (("a", 0), ("b", 1)))
        self.assertIs(is_same(LONELY, within), True)
        self.assertIs(is_same(within, LONELY), True)
        self.assertIs(is_same((PARITY[0], (("a", 0), ("b", 0))), ONE), True)
        self.assertIs(is_same(ONE, PARITY), False)
        self.assertIs(is_same(PARITY, ONE), False)
        self.assertIs(is_same(CAP, PARITY), False)


if __name__ == "__main__":
    unittest.main()
