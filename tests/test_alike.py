"""[9], [33]: MODELS that are ALIKE, held against all WORDS of short lengths."""

import random
import unittest
from fractions import Fraction

from tests.helpers import (
    CAP, FIRSTS, ONE, PARITY, any_values, changed, leaves_alone, lists_for_tuples, some_models, truths_for_numbers,
    walks, weight_by_walks, words_of_length, words_up_to,
)
from unwrittenrow.alike import (
    alike_kinds, alike_paper, are_alike, chance_by, is_alike_paper, is_parting, parting, track_of, value_of,
)
from unwrittenrow.forms import is_fraction
from unwrittenrow.models import called, mixed, turned_back

FAIR = (ONE, (1,), (1,), ((0, "a", 0, 1), (0, "b", 0, 1)))
HEAVY = (ONE, (5,), (2,), ((0, "a", 0, 7), (0, "b", 0, 7)))
BENT = (ONE, (1, 0), (1, 1), ((0, "a", 0, 1), (0, "b", 1, 1), (1, "a", 0, 1), (1, "b", 1, 2)))
EVEN = (ONE, (1, 0), (1, 0), ((0, "a", 1, 1), (1, "b", 0, 1)))
NONE = (PARITY, (1,), (0,), ((0, "a", 0, 3),))
EMPTY = (CAP, (0,), (0,), ())
ONLY_EMPTY = (CAP, (2,), (3,), ())


def scaled(model, begin, end, step):
    """Return the MODEL with begins, ends and w times integers: the CHANCES stay."""
    measure, begins, ends, arcs = model
    return (
        measure, tuple([begin * one for one in begins]), tuple([end * one for one in ends]),
        tuple([(p, letter, q, step * w) for p, letter, q, w in arcs]),
    )


def renamed(model, order):
    """Return the MODEL with its STATE p called order[p]."""
    measure, begins, ends, arcs = model
    back = [order.index(p) for p in range(len(order))]
    return (
        measure, tuple([begins[p] for p in back]), tuple([ends[p] for p in back]),
        tuple(sorted([(order[p], letter, order[q], w) for p, letter, q, w in arcs])),
    )


def doubled(model, state):
    """Return the MODEL with a STATE twice, begins and all that leads there being twice as much for all others."""
    measure, begins, ends, arcs = model
    new = len(begins)
    found = []
    for p, letter, q, w in arcs:
        for start in (p, new) if p == state else (p,):
            if q == state:
                found.extend([(start, letter, q, w), (start, letter, new, w)])
            else:
                found.append((start, letter, q, 2 * w))
    begin = [2 * one for one in begins]
    begin[state] = begins[state]
    return (measure, tuple(begin) + (begins[state],), ends + (ends[state],), tuple(sorted(found)))


def with_other_measure(model):
    """Return the MODEL by a MEASURE with a LETTER more, which no arc has."""
    values = tuple([(letter, 0) for letter in sorted({arc[1] for arc in model[3]} | {"z"})])
    return ((((0,),), values),) + model[1:]


def plain_parting(one, other, letters, most):
    """Return the least PARTING among lengths up to 40 and WORDS with most LETTERS, `None` if there is none."""
    def total(model, n):
        sums = list(model[1])
        for _ in range(n):
            led = [0] * len(sums)
            for p, _, q, w in model[3]:
                led[q] += sums[p] * w
            sums = led
        return sum(x * y for x, y in zip(sums, model[2]))

    for n in range(41):
        if (total(one, n) > 0) != (total(other, n) > 0):
            return ("length", n)
    for n in range(most + 1):
        mine, its = total(one, n), total(other, n)
        for word in words_of_length(letters, n) if mine else []:
            chances = Fraction(weight_by_walks(one, word), mine), Fraction(weight_by_walks(other, word), its)
            if chances[0] != chances[1]:
                return ("word", word) + tuple([(its.numerator, its.denominator) for its in chances])
    return None


class Partings(unittest.TestCase):
    def holds(self, one, other, most=6, letters="ab"):
        found = leaves_alone(self, parting, one, other)
        expected = plain_parting(one, other, letters, most)
        if found is not None and found[0] == "word" and len(found[1]) > most:
            self.assertIsNone(expected)
        else:
            self.assertEqual(found, expected, (one, other))
        self.assertIs(leaves_alone(self, are_alike, one, other), found is None)
        if found is not None:
            self.assertIs(is_parting(one, other, found), True)
            self.assertIsNone(alike_paper(one, other))
        else:
            paper = leaves_alone(self, alike_paper, one, other)
            self.assertIs(leaves_alone(self, is_alike_paper, one, other, paper), True)
            self.assertIs(is_alike_paper(other, one, alike_paper(other, one)), True)
        return found

    def test_of_all_kinds(self):
        met = {}
        models = [FAIR, HEAVY, BENT, EVEN, NONE, EMPTY, ONLY_EMPTY] + some_models(61, 9, ONE, 3, 2)
        for one in models:
            for other in models:
                found = self.holds(one, other, 5)
                met[found and found[0]] = met.get(found and found[0], 0) + 1
        self.assertGreater(min(met.values()), 15)
        self.assertEqual(len(met), 3)

    def test_scaled_renamed_doubled(self):
        chance = random.Random(62)
        for model in some_models(63, 12, CAP, 3) + some_models(64, 6, FIRSTS, 3, 10 ** 3) + [BENT, EVEN, FAIR]:
            order = list(range(len(model[1])))
            chance.shuffle(order)
            others = [
                scaled(model, 3, 1, 1), scaled(model, 1, 7, 1), scaled(model, 2, 5, 11), renamed(model, order),
                doubled(model, chance.randrange(len(model[1]))), with_other_measure(model),
                renamed(scaled(model, 1, 2, 9), order), turned_back(turned_back(model)),
            ]
            others.append(doubled(doubled(model, 0), 0))
            others.append(mixed(model, model, 1, 5) if len(order) < 4 else model)
            for other in others:
                self.assertIsNone(self.holds(model, other, 4))
                self.assertIsNone(self.holds(other, model, 4))

    def test_with_one_weight_otherwise(self):
        met = {None: 0, "length": 0, "word": 0}
        for model in some_models(65, 12, ONE, 3, 3) + [BENT]:
            for at, (p, letter, q, w) in enumerate(model[3]):
                other = model[:3] + (model[3][:at] + ((p, letter, q, w + 1),) + model[3][at + 1:],)
                found = self.holds(model, other)
                met[found and found[0]] += 1
                other = model[:3] + (model[3][:at] + model[3][at + 1:],)
                found = self.holds(model, other)
                met[found and found[0]] += 1
            for at in range(len(model[1])):
                for side in (1, 2):
                    numbers = model[side][:at] + (model[side][at] + 1,) + model[side][at + 1:]
                    found = self.holds(model, model[:side] + (numbers,) + model[side + 1:])
                    met[found and found[0]] += 1
        self.assertGreater(min(met.values()), 3)

    def test_a_parting_far_on(self):
        # The WORDS of both have the same CHANCES up to five LETTERS.
        line = tuple([(p, "a", p + 1, 1) for p in range(5)])
        one = (ONE, (1, 0, 0, 0, 0, 0), (1, 1, 1, 1, 1, 1), line + ((5, "a", 5, 1), (5, "b", 5, 1)))
        other = (ONE, (1, 0, 0, 0, 0, 0), (1, 1, 1, 1, 1, 1), line + ((5, "a", 5, 1), (5, "b", 5, 2)))
        self.assertEqual(self.holds(one, other), ("word", "aaaaaa", (1, 2), (1, 3)))
        third = one[:3] + (line + ((5, "a", 5, 1),),)
        self.assertEqual(self.holds(one, third), ("word", "aaaaaa", (1, 2), (1, 1)))

    def test_lengths_in_rings(self):
        def ring(many):
            return (ONE, (1,) + (0,) * (many - 1), (1,) + (0,) * (many - 1),
                    tuple([(p, "a", (p + 1) % many, 1) for p in range(many)]))

        self.assertEqual(self.holds(ring(2), ring(3)), ("length", 2))
        self.assertEqual(self.holds(ring(6), ring(5)), ("length", 5))
        self.assertEqual(self.holds(ring(1), ring(6)), ("length", 1))
        self.assertIsNone(self.holds(ring(4), ring(4)))
        both = mixed(ring(2), ring(3), 1, 1)
        self.assertEqual(self.holds(both, ring(6)[:3] + (ring(6)[3],)), ("length", 2))
        self.assertIsNone(self.holds(mixed(ring(3), ring(3), 2, 9), ring(3)))
        # Lengths in a ring, behind some that are not: the first one that parts is far on.
        tail = (ONE, (1, 0, 0, 0, 0, 0), (1, 0, 0, 0, 0, 0), tuple([(p, "a", (p + 1) % 6, 1) for p in range(6)]))
        self.assertEqual(self.holds(ring(6), tail), None)
        self.assertEqual(self.holds(tail[:2] + ((1, 0, 0, 0, 0, 1),) + tail[3:], ring(6)), ("length", 5))

    def test_a_length_ahead_of_a_word(self):
        # They part by the WORD "a", and by length at 3 alone.
        one = (ONE, (1, 0, 0, 0), (1, 1, 1, 0), ((0, "a", 1, 1), (0, "b", 1, 2), (1, "a", 2, 1)))
        other = (ONE, (1, 0, 0, 0), (1, 1, 1, 1), ((0, "a", 1, 1), (0, "b", 1, 1), (1, "a", 2, 1), (2, "a", 3, 1)))
        self.assertEqual(self.holds(one, other), ("length", 3))
        self.assertIs(is_parting(one, other, ("word", "a", (1, 3), (1, 2))), True)

    def test_letters_of_one_alone(self):
        wide = ((((0,),), (("a", 0), ("c", 0))), (1,), (1,), ((0, "a", 0, 1), (0, "c", 0, 1)))
        self.assertEqual(parting(FAIR, wide), ("word", "b", (1, 2), (0, 1)))
        self.assertEqual(parting(wide, FAIR), ("word", "b", (0, 1), (1, 2)))
        renamed_letters = called(wide, (("a", "a"), ("c", "b")))
        self.assertIsNone(parting(FAIR, renamed_letters))
        only = ((((0,),), (("c", 0),)), (1,), (1,), ((0, "c", 0, 1),))
        self.assertEqual(parting(only, FAIR), ("word", "a", (0, 1), (1, 2)))
        self.assertEqual(parting(only, called(only, (("c", "d"),))), ("word", "c", (1, 1), (0, 1)))

    def test_great_models(self):
        chance = random.Random(66)
        model = (FIRSTS, (999999, 3, 0, 10 ** 6, 1, 2), (5, 0, 999983, 1, 1, 10 ** 6), tuple(sorted(
            (p, letter, q, chance.randint(1, 10 ** 6)) for p in range(6) for letter in "ab" for q in range(6)
        )))
        other = renamed(scaled(model, 1, 1, 1), [3, 5, 1, 0, 2, 4])
        paper = alike_paper(model, other)
        self.assertIs(is_alike_paper(model, other, paper), True)
        self.assertLessEqual(len(paper[0]), 72)
        p, letter, q, w = other[3][40]
        bent = other[:3] + (other[3][:40] + ((p, letter, q, w % 10 ** 6 + 1),) + other[3][41:],)
        self.assertEqual(parting(model, bent)[0], "word")
        self.assertIs(is_alike_paper(model, bent, paper), False)


class IsParting(unittest.TestCase):
    def plainly(self, one, other, thing):
        if type(thing) is not tuple:
            return False
        if len(thing) == 2:
            return repr(thing[0]) == repr("length") and type(thing[1]) is int and thing[1] >= 0 and (
                (chance_of_length(one, thing[1]) > 0) != (chance_of_length(other, thing[1]) > 0))
        if len(thing) != 4 or repr(thing[0]) != repr("word") or type(thing[1]) is not str:
            return False
        if not all("a" <= sign <= "z" for sign in thing[1]):
            return False
        totals = [chance_of_length(model, len(thing[1])) for model in (one, other)]
        if not all(totals):
            return False
        chances = [Fraction(weight_by_walks(model, thing[1]), total) for model, total in zip((one, other), totals)]
        told = tuple([(its.numerator, its.denominator) for its in chances])
        return chances[0] != chances[1] and repr(thing[2:]) == repr(told)

    def test_words_and_lengths_the_least_or_not(self):
        met = {True: 0, False: 0}
        models = [FAIR, HEAVY, BENT, EVEN, NONE, ONLY_EMPTY] + some_models(67, 4, ONE, 3, 2)
        for one in models:
            for other in models:
                for n in range(5):
                    found = leaves_alone(self, is_parting, one, other, ("length", n))
                    self.assertIs(found, self.plainly(one, other, ("length", n)))
                    met[found] += 1
                for word in words_up_to("ab", 3) + ["c", "ac"]:
                    chances = (chance_by(one, word), chance_by(other, word))
                    thing = ("word", word) + chances
                    found = leaves_alone(self, is_parting, one, other, thing)
                    self.assertIs(found, self.plainly(one, other, thing), (one, other, thing))
                    met[found] += 1
                    for wrong in (thing[:3] + ((1, 7),), thing[:2] + thing[:1:-1], thing[:2]):
                        self.assertIs(is_parting(one, other, wrong), self.plainly(one, other, wrong))
        self.assertGreater(min(met.values()), 200)

    def test_with_one_thing_otherwise(self):
        for one, other in ((FAIR, BENT), (FAIR, EVEN), (EVEN, FAIR), (BENT, FAIR)):
            thing = parting(one, other)
            for wrong in changed(thing) + truths_for_numbers(thing) + lists_for_tuples(thing):
                self.assertIs(is_parting(one, other, wrong), self.plainly(one, other, wrong), wrong)
        for n in (10 ** 199, 10 ** 199 + 1):
            self.assertIs(is_parting(FAIR, EVEN, ("length", n)), n % 2 == 1)
        self.assertIs(is_parting(FAIR, FAIR, ("length", 10 ** 199)), False)

    def test_any_values(self):
        for value in any_values():
            for thing in (value, (value,), ("length", value), (value, 1), ("word", value, (1, 4), (1, 5)),
                          ("word", "aa", value, (1, 5)), ("word", "aa", (1, 4), value), (value, "aa", (1, 4), (1, 5)),
                          ["word", "aa", (1, 4), (1, 5)], ("word", "aa", (1, 4), (1, 5), value)):
                self.assertIs(is_parting(FAIR, BENT, thing), thing == ("word", "ab", (1, 4), (1, 5)))
        self.assertIs(is_parting(FAIR, BENT, ("word", "aa", (1, 4), (1, 5))), True)
        self.assertIs(is_parting(FAIR, BENT, ("word", "a" * 3000, (1, 4), (1, 5))), False)

    def test_chances_of_words(self):
        for model in [FAIR, HEAVY, BENT, EVEN, NONE, EMPTY, ONLY_EMPTY] + some_models(68, 8, CAP, 3):
            for word in words_up_to("abc", 3):
                total = chance_of_length(model, len(word))
                found = leaves_alone(self, chance_by, model, word)
                if total == 0:
                    self.assertIsNone(found)
                else:
                    self.assertTrue(is_fraction(found))
                    self.assertEqual(Fraction(*found), Fraction(weight_by_walks(model, word), total))


def chance_of_length(model, n):
    """Return Z(n); of n above 1000 whether it is above 0, for MODELS whose lengths come again by 2."""
    sums = list(model[1])
    for _ in range(n if n < 1000 else 1000 + n % 2):
        led = [0] * len(sums)
        for p, _, q, w in model[3]:
            led[q] += sums[p] * w
        sums = led
    return sum(x * y for x, y in zip(sums, model[2]))


def plain_track(one, other, word):
    def ends(model, words):
        sums = [0] * len(model[1])
        for its in words:
            for p, q, price in walks(model, its):
                sums[q] += model[1][p] * price
        return sums

    letters = sorted({arc[1] for arc in one[3] + other[3]})
    every = words_of_length(letters, len(word))
    first = [x * y for x in ends(one, [word]) for y in ends(other, every)]
    return tuple(first + [x * y for x in ends(one, every) for y in ends(other, [word])])


class Tracks(unittest.TestCase):
    def test_by_all_walks(self):
        models = [FAIR, HEAVY, BENT, EVEN, EMPTY] + some_models(69, 5, PARITY, 3)
        for one in models:
            for other in models:
                for word in words_up_to("ab", 3) + ["c", "ca"]:
                    track = leaves_alone(self, track_of, one, other, word)
                    self.assertEqual(track, plain_track(one, other, word), (one, other, word))
                    value = leaves_alone(self, value_of, one, other, track)
                    totals = [chance_of_length(model, len(word)) for model in (one, other)]
                    self.assertEqual(
                        value, weight_by_walks(one, word) * totals[1] - weight_by_walks(other, word) * totals[0]
                    )

    def test_values_of_any_tracks(self):
        self.assertEqual(value_of(FAIR, HEAVY, (3, 8)), 2 * (3 - 8))
        self.assertEqual(value_of(BENT, EVEN, (1, 10, 100, 1000, 2, 20, 200, 2000)), 1 + 100 - 2 - 200)


class AlikePapers(unittest.TestCase):
    def plainly(self, one, other, thing):
        """Tell by the document whether a tuple of the right form is an ALIKE PAPER, lengths being the same."""
        words, rows = thing
        letters = sorted({arc[1] for arc in one[3] + other[3]})
        longer = [word + letter for word in words for letter in letters]
        tracks = [plain_track(one, other, word) for word in words]
        if any(value_of(one, other, track) for track in tracks) or len(rows) != len(longer):
            return False
        return all(
            item == sum(Fraction(*one) * track[at] for one, track in zip(row, tracks))
            for word, row in zip(longer, rows) for at, item in enumerate(plain_track(one, other, word))
        )

    def pairs(self):
        order = [1, 0]
        yield FAIR, HEAVY
        yield BENT, renamed(scaled(BENT, 2, 3, 5), order)
        yield EVEN, scaled(EVEN, 4, 1, 1)
        yield NONE, EMPTY
        yield EMPTY, EMPTY
        yield ONLY_EMPTY, scaled(ONLY_EMPTY, 2, 2, 2)
        for model in some_models(70, 5, ONE, 2, 2):
            yield model, doubled(model, 0)

    def test_what_is_made_is_taken(self):
        for one, other in self.pairs():
            paper = alike_paper(one, other)
            self.assertTrue(self.plainly(one, other, paper))
            self.assertIs(is_alike_paper(one, other, paper), True)
            words, rows = paper
            self.assertEqual(words[0], "")
            self.assertEqual(list(words), sorted(words, key=lambda word: (len(word), word)))
            self.assertLessEqual(len(words), max(1, 2 * len(one[1]) * len(other[1])))
            for row in rows:
                self.assertEqual(len(row), len(words))
                self.assertTrue(all(is_fraction(item) for item in row))

    def test_with_one_thing_otherwise(self):
        met = {True: 0, False: 0}
        for one, other in self.pairs():
            words, rows = alike_paper(one, other)
            for at, row in enumerate(rows):
                for place, (n, d) in enumerate(row):
                    for item in ((n + d, d), (n, d + 1), (-n, d), [n, d], (n, d, 0), (True, d), (n, True), n, None, (2 * n, 2 * d)):
                        wrong = (words, rows[:at] + (row[:place] + (item,) + row[place + 1:],) + rows[at + 1:])
                        found = is_alike_paper(one, other, wrong)
                        if is_fraction(item):
                            self.assertIs(found, self.plainly(one, other, wrong))
                        else:
                            self.assertIs(found, False)
                        met[found] += 1
                for wrong in (row[1:], row + ((0, 1),), list(row), ()):
                    self.assertIs(is_alike_paper(one, other, (words, rows[:at] + (wrong,) + rows[at + 1:])), False)
                self.assertIs(is_alike_paper(one, other, (words, rows[:at] + rows[at + 1:])), False)
            for wrong in (
                (words, rows + rows[:1] or ((),)), (list(words), rows), (words, list(rows)), [words, rows], (words,), (words, rows, ()),
                (words[1:], rows), (words + ("B",), rows), (words[::-1] + ("",), rows), (words + words[-1:], rows), ((), ()),
            ):
                self.assertIs(is_alike_paper(one, other, wrong), False)
        self.assertGreater(min(met.values()), 10)

    def test_more_words_than_are_needed(self):
        # The TRACK of "a" is 14 times that of "" here, so rows may tell of either.
        words = ("", "a", "zz")
        row = lambda x, y, z: ((x, 1), (y, 1), (z, 1))
        for last in (0, 5):
            rows = tuple([row(14, 0, last)] * 2 + [row(0, 14, last)] * 2 + [row(0, 0, last)] * 2)
            self.assertIs(is_alike_paper(FAIR, HEAVY, (words, rows)), True)
            rows = tuple([row(0, 1, last)] * 2 + [row(14 ** 2, 0, last)] * 2 + [row(0, 0, last)] * 2)
            self.assertIs(is_alike_paper(FAIR, HEAVY, (words, rows)), True)
        halves = ((7, 1), (1, 2), (0, 1))
        self.assertIs(is_alike_paper(FAIR, HEAVY, (words, (halves,) + rows[1:])), True)
        self.assertIs(is_alike_paper(FAIR, HEAVY, (words, rows[:-1] + (row(1, 0, 0),))), False)
        for wrong in (("a", ""), ("", "zz", "a"), ("", "b", "a"), ("", "a", "a"), ("a", "zz")):
            self.assertIs(is_alike_paper(FAIR, HEAVY, (wrong, rows[:2 * len(wrong)])), False)

    def test_of_models_that_part(self):
        for one, other in ((FAIR, BENT), (FAIR, EVEN), (EVEN, FAIR), (BENT, FAIR), (FAIR, NONE), (ONLY_EMPTY, NONE)):
            for paper in (alike_paper(FAIR, HEAVY), alike_paper(NONE, EMPTY), alike_paper(EVEN, EVEN), (("",), ())):
                self.assertIs(is_alike_paper(one, other, paper), False)
        # All TRACKS are 0, so but for the lengths this would be a paper.
        self.assertIs(is_alike_paper(EMPTY, NONE, (("",), (((0, 1),),))), True)
        self.assertIs(is_alike_paper(EMPTY, EMPTY, (("",), ())), True)
        self.assertIs(is_alike_paper(EMPTY, ONLY_EMPTY, (("",), ())), False)
        self.assertIs(is_alike_paper(NONE, FAIR, (("",), (((7, 1),), ((7, 1),)))), False)

    def test_any_values(self):
        words, rows = alike_paper(FAIR, HEAVY)
        for value in any_values():
            for thing in (value, (value,), (words, value), (value, rows), (words, (value,) + rows[1:]), ((value,), rows),
                          (words, (((value,),) + rows[1:])), (("", value), rows), (words, rows, value), ("", value),
                          (words, ((((value, 1),),) + rows[1:])), (words, (((14, value),),) + rows[1:])):
                expected = repr(thing) == repr((words, rows))
                self.assertIs(is_alike_paper(FAIR, HEAVY, thing), expected, thing)
        huge = 10 ** 199 + 1
        self.assertIs(is_alike_paper(FAIR, HEAVY, (words, (((huge, 14),),) * 2)), False)
        long = "a" * 3000
        self.assertIs(is_alike_paper(FAIR, HEAVY, (("", long), (((14, 1), (0, 1)),) * 4)), False)
        self.assertIs(is_alike_paper(FAIR, HEAVY, (("", long), (((14, 1), (0, 1)),) * 2 + (((0, 1), (14, 1)),) * 2)), True)


class Kinds(unittest.TestCase):
    def test_of_none_to_six(self):
        chance = random.Random(75)
        models = [FAIR, HEAVY, BENT, EVEN, NONE, EMPTY, renamed(BENT, [1, 0]), scaled(EVEN, 2, 2, 2), ONLY_EMPTY]
        self.assertEqual(alike_kinds([]), [])
        self.assertEqual(alike_kinds(()), [])
        for _ in range(40):
            some = [chance.choice(models) for _ in range(chance.randint(1, 6))]
            found = leaves_alone(self, alike_kinds, some)
            self.assertEqual(alike_kinds(tuple(some)), found)
            self.assertIs(type(found), list)
            self.assertEqual(found, sorted(found))
            self.assertEqual(sorted(x for lot in found for x in lot), list(range(len(some))))
            for x in range(len(some)):
                lot = tuple([y for y in range(len(some)) if plain_parting(some[x], some[y], "ab", 5) is None])
                self.assertIn(lot, found)
            found.clear()
        self.assertEqual(alike_kinds([NONE, EMPTY, FAIR, NONE]), [(0, 1, 3), (2,)])

    def test_the_same_again(self):
        paper = alike_paper(BENT, BENT)
        alike_paper(FAIR, EVEN)
        self.assertEqual(alike_paper(BENT, BENT), paper)
        self.assertEqual(parting(FAIR, BENT), parting(FAIR, BENT))


if __name__ == "__main__":
    unittest.main()
