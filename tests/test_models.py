"""[16]: MODELS, held against WALKS gone through one by one."""

import unittest

from tests.helpers import (
    CAP, FIRSTS, ONE, PARITY, leaves_alone, some_models, some_wishes, walks, weight_by_walks,
    weights_by_walks, words_of_length, words_up_to,
)
from unwrittenrow.errors import TooMany
from unwrittenrow.forms import is_measure, is_model, letters_of
from unwrittenrow.measures import measure_of
from unwrittenrow.models import (
    behind, called, kept_to, letters_in, measure_in, mixed, prices_of, states_of, total_of, trimmed,
    turned_back, weight_of, with_measure, words_of,
)
from unwrittenrow.wishes import at_least, counted, ending, holding, not_taken, takes

MODEL = (PARITY, (1, 0), (1, 1), ((0, "a", 0, 2), (0, "b", 1, 1), (1, "a", 0, 3)))
NO_ARCS = (PARITY, (2, 0, 3), (5, 7, 1), ())
NO_BEGINS = (PARITY, (0, 0), (1, 1), MODEL[3])
NO_ENDS = (PARITY, (1, 1), (0, 0), MODEL[3])
FULL = (CAP, (1, 2, 3, 4, 5, 6), (6, 5, 4, 3, 2, 1), tuple([
    (p, letter, q, p + 2 * q + 1) for p in range(6) for letter in "ab" for q in range(6)
]))
GREAT = (ONE, (10 ** 6,), (10 ** 6,), ((0, "a", 0, 10 ** 6), (0, "b", 0, 10 ** 6)))
NAMED = [MODEL, NO_ARCS, NO_BEGINS, NO_ENDS, GREAT]
MODELS = NAMED + some_models(1, 40) + some_models(2, 10, CAP, 4) + some_models(3, 10, FIRSTS, 2)
NOTHING = ((0,), (0,), ())


def with_small_weights(model):
    """Return the MODEL with all weights of at most 10 ** 6, so that its form can be asked for."""
    measure, begins, ends, arcs = model
    cut = lambda weights: tuple([min(weight, 10 ** 6) for weight in weights])
    return measure, cut(begins), cut(ends), tuple([arc[:3] + (min(arc[3], 10 ** 6),) for arc in arcs])


class ModelTest(unittest.TestCase):
    def has_weights(self, model, letters, n, plain):
        """See that a MODEL has its form, and gives short WORDS the WEIGHTS that plain tells."""
        self.assertTrue(is_model(with_small_weights(model)), model)
        self.assertEqual({w > 0 for _, _, _, w in model[3]} | {True}, {True})
        for word in words_up_to(letters, n):
            self.assertEqual(weight_by_walks(model, word), plain(word), word)


class WhatModelsGive(ModelTest):
    def test_parts(self):
        for model in MODELS + [FULL]:
            self.assertEqual(leaves_alone(self, measure_in, model), model[0])
            self.assertEqual(leaves_alone(self, letters_in, model), "ab")
            self.assertEqual(leaves_alone(self, states_of, model), len(model[1]))
        odd = (((0,),), (("c", 0), ("x", 0), ("z", 0)))
        self.assertEqual(letters_in((odd, (1,), (1,), ())), "cxz")

    def test_prices(self):
        for model in MODELS:
            for word in words_up_to("ab", 4):
                expected = {}
                for p, q, price in walks(model, word):
                    expected[(p, q)] = expected.get((p, q), 0) + price
                found = leaves_alone(self, prices_of, model, word)
                self.assertEqual(found, expected)
                self.assertEqual(list(found), sorted(found))
        self.assertEqual(prices_of(NO_ARCS, ""), {(0, 0): 1, (1, 1): 1, (2, 2): 1})
        self.assertEqual(prices_of(NO_ARCS, "a"), {})
        self.assertEqual(prices_of(NO_BEGINS, "ba"), {(0, 0): 3})

    def test_dicts_are_new(self):
        for call, more in ((prices_of, "a"), (words_of, 2)):
            first = call(MODEL, more)
            first.clear()
            self.assertNotEqual(call(MODEL, more), {})
            self.assertIsNot(call(MODEL, more), call(MODEL, more))

    def test_weights(self):
        for model in MODELS:
            for word in words_up_to("ab", 5):
                self.assertEqual(leaves_alone(self, weight_of, model, word), weight_by_walks(model, word))
        for word in words_up_to("ab", 2):
            self.assertEqual(weight_of(FULL, word), weight_by_walks(FULL, word))
        self.assertEqual(weight_of(GREAT, "ab" * 1000), 10 ** 12012)

    def test_totals(self):
        for model in MODELS:
            for n in range(6):
                expected = sum(weight_by_walks(model, word) for word in words_of_length("ab", n))
                self.assertEqual(leaves_alone(self, total_of, model, n), expected)

    def test_totals_of_many_places(self):
        def times(one, other):
            size = range(len(one))
            return [[sum(one[p][r] * other[r][q] for r in size) for q in size] for p in size]

        for model in (MODEL, FULL, GREAT, NO_ARCS):
            size = range(len(model[1]))
            step = [[sum(w for p, _, q, w in model[3] if (p, q) == (a, b)) for b in size] for a in size]
            power = [[int(a == b) for b in size] for a in size]
            for digit in bin(3000)[2:]:
                power = times(power, power)
                if digit == "1":
                    power = times(power, step)
            expected = sum(model[1][p] * power[p][q] * model[2][q] for p in size for q in size)
            self.assertEqual(total_of(model, 3000), expected)

    def test_words(self):
        for model in MODELS:
            for n in range(7 if model in NAMED else 5):
                expected = {word: weight_by_walks(model, word) for word in words_of_length("ab", n)}
                found = leaves_alone(self, words_of, model, n)
                self.assertEqual(found, {word: weight for word, weight in expected.items() if weight})
                self.assertEqual(list(found), sorted(found))
        self.assertEqual(words_of(NO_ENDS, 0), {})
        self.assertEqual(words_of((ONE, (1,), (1,), ()), 0), {"": 1})
        wide = (((0,),), tuple([(letter, 0) for letter in "abcdef"]))
        found = words_of((wide, (1,), (1,), tuple([(0, letter, 0, 1) for letter in "abcdef"])), 6)
        self.assertEqual(list(found), words_of_length("abcdef", 6))
        self.assertEqual(set(found.values()), {1})


class ModelsOfOneModel(ModelTest):
    def test_with_measure(self):
        for model in MODELS:
            for measure in (PARITY, CAP, (((0,),), (("a", 0), ("b", 0), ("c", 0)))):
                found = leaves_alone(self, with_measure, model, measure)
                self.assertEqual(found, (measure,) + model[1:])
        fewer = (ONE, (1,), (1,), ((0, "b", 0, 4),))
        alone = (((0,),), (("b", 0),))
        self.assertEqual(with_measure(fewer, alone), (alone, (1,), (1,), ((0, "b", 0, 4),)))

    def test_turned_back(self):
        for model in MODELS:
            found = leaves_alone(self, turned_back, model)
            self.has_weights(found, "ab", 4, lambda word: weight_by_walks(model, word[::-1]))
            self.assertTrue(is_measure(found[0]))
            self.assertEqual(found[0][1], model[0][1])
            for x in range(len(model[0][0])):
                for y in range(len(model[0][0])):
                    self.assertEqual(found[0][0][x][y], model[0][0][y][x])
            for word in words_up_to("ab", 4):
                self.assertEqual(measure_of(found[0], word[::-1]), measure_of(model[0], word))
        self.assertNotEqual(turned_back(MODELS[-1])[0], FIRSTS)

    def test_called(self):
        for model in MODELS:
            found = leaves_alone(self, called, model, (("a", "x"), ("b", "c")))
            self.assertEqual(letters_of(found[0]), "cx")
            self.assertEqual(found[0][0], model[0][0])
            self.assertEqual(dict(found[0][1]), {"x": dict(model[0][1])["a"], "c": dict(model[0][1])["b"]})
            self.has_weights(
                found, "cx", 4, lambda word: weight_by_walks(model, word.replace("x", "a").replace("c", "b"))
            )
            self.assertEqual(called(model, (("a", "a"), ("b", "b"))), model)
            swapped = called(model, (("a", "b"), ("b", "a")))
            self.assertEqual(called(swapped, (("a", "b"), ("b", "a"))), model)

    def test_called_alike(self):
        for model in some_models(5, 20, ONE) + [GREAT]:
            found = called(model, (("a", "q"), ("b", "q")))
            self.assertEqual(found[0], (((0,),), (("q", 0),)))
            self.has_weights(
                found, "q", 5,
                lambda word: sum(weight_by_walks(model, one) for one in words_of_length("ab", len(word))),
            )
        self.assertEqual(called(GREAT, (("a", "q"), ("b", "q")))[3], ((0, "q", 0, 2 * 10 ** 6),))
        three = (((0, 1), (1, 0)), (("a", 0), ("b", 1), ("c", 0)))
        model = (three, (1,), (1,), ((0, "a", 0, 1), (0, "b", 0, 2), (0, "c", 0, 4)))
        found = called(model, (("a", "z"), ("b", "c"), ("c", "z")))
        self.assertEqual(found[0][1], (("c", 1), ("z", 0)))
        self.assertEqual(found[3], ((0, "c", 0, 2), (0, "z", 0, 5)))

    def of_use(self, model):
        """Return the STATES of USE, by all WALKS of as many LETTERS as there are STATES."""
        led = [(p, q) for word in words_up_to("ab", len(model[1]) - 1) for p, q, _ in walks(model, word)]
        onward = {q for p, q in led if model[1][p] > 0}
        back = {p for p, q in led if model[2][q] > 0}
        return sorted(onward & back)

    def test_trimmed(self):
        sizes = set()
        for model in MODELS + some_models(6, 150, PARITY, 5):
            found = leaves_alone(self, trimmed, model)
            states = self.of_use(model)
            sizes.add((len(states), len(model[1])))
            self.assertTrue(is_model(found))
            self.assertEqual(found[0], model[0])
            if not states:
                self.assertEqual(found[1:], NOTHING)
                continue
            self.assertEqual(found[1], tuple([model[1][p] for p in states]))
            self.assertEqual(found[2], tuple([model[2][p] for p in states]))
            self.assertEqual(
                [(states[p], letter, states[q], w) for p, letter, q, w in found[3]],
                [arc for arc in model[3] if arc[0] in states and arc[2] in states],
            )
            self.has_weights(found, "ab", 3, lambda word: weight_by_walks(model, word))
        self.assertTrue({(0, 3), (1, 3), (2, 3), (3, 3)} <= sizes)
        for model in (NO_BEGINS, NO_ENDS):
            self.assertEqual(trimmed(model), (PARITY,) + NOTHING)
        self.assertEqual(trimmed(NO_ARCS), (PARITY, (2, 3), (5, 1), ()))
        self.assertEqual(trimmed(FULL), FULL)

    def test_kept_to(self):
        sizes = []
        wishes = some_wishes(7, 60) + [holding("ab", "ab"), counted("ab", "b", 2, (1,)), at_least("ab", "a", 5)]
        for at, wish in enumerate(wishes):
            for model in (MODELS[at % len(MODELS)], MODELS[(7 * at + 3) % len(MODELS)]):
                sizes.append(self.compare_kept(model, wish))
        self.assertTrue({0, 1, 2, 3, 4, 5, 6, 7} <= set(sizes))

    def compare_kept(self, model, wish):
        measure, begins, ends, arcs = model
        steps, taken = wish
        states = [(p, spot) for p in range(len(begins)) for spot in range(len(steps))]
        wide = {
            (p, spot): [((q, dict(steps[spot])[letter]), letter, w) for start, letter, q, w in arcs if start == p]
            for p, spot in states
        }
        onward = {(p, 0) for p in range(len(begins)) if begins[p]}
        back = {(p, spot) for p, spot in states if ends[p] and spot in taken}
        for _ in states:
            onward = onward | {to for state in onward for to, _, _ in wide[state]}
            back = back | {state for state in states if any(to in back for to, _, _ in wide[state])}
        kept = sorted(onward & back)
        if len(kept) > 6:
            with self.assertRaises(TooMany) as caught:
                kept_to(model, wish)
            self.assertEqual(caught.exception.most, 6)
            return len(kept)
        found = leaves_alone(self, kept_to, model, wish)
        self.assertEqual(found[0], measure)
        if kept:
            self.assertEqual(found[1], tuple([begins[p] if spot == 0 else 0 for p, spot in kept]))
            self.assertEqual(found[2], tuple([ends[p] if spot in taken else 0 for p, spot in kept]))
            self.assertEqual(list(found[3]), sorted([
                (at, letter, kept.index(to), w)
                for at, state in enumerate(kept) for to, letter, w in wide[state] if to in kept
            ]))
        else:
            self.assertEqual(found[1:], NOTHING)
        self.has_weights(
            found, "ab", 4, lambda word: weight_by_walks(model, word) if takes(wish, word) else 0
        )
        return len(kept)

    def test_kept_to_just_six_and_just_more(self):
        whole = (ONE, (1,), (1,), ((0, "a", 0, 1), (0, "b", 0, 1)))
        two = (ONE, (1, 0), (1, 1), ((0, "a", 1, 1), (0, "b", 0, 1), (1, "a", 0, 1), (1, "b", 1, 1)))
        self.assertEqual(states_of(kept_to(whole, counted("ab", "a", 6, (0,)))), 6)
        self.assertEqual(states_of(kept_to(two, counted("ab", "b", 3, (0,)))), 6)
        with self.assertRaises(TooMany):
            kept_to(two, counted("ab", "b", 4, (0,)))
        # Twelve tuples, of which six are of USE.
        self.assertEqual(states_of(kept_to(two, counted("ab", "a", 6, (0,)))), 6)
        self.assertEqual(kept_to(whole, counted("ab", "a", 6, ()))[1:], NOTHING)
        self.assertEqual(kept_to(whole, not_taken(ending("ab", "b")))[1:3], ((1, 0), (1, 0)))


class ModelsOfTwoModels(ModelTest):
    def shifted(self, one, other):
        many = len(one[1])
        return [(p + many, letter, q + many, w) for p, letter, q, w in other[3]]

    def pairs(self):
        models = NAMED[:4] + some_models(8, 40)
        return list(zip(models, models[1:] + models[:1])) + [(MODEL, MODEL), (NO_ARCS, NO_ARCS)]

    def test_mixed(self):
        for at, (one, other) in enumerate(self.pairs()):
            a, b = (1, 1000, 7)[at % 3], (3, 1, 1000)[at % 3]
            found = leaves_alone(self, mixed, one, other, a, b)
            self.assertEqual(found[0], one[0])
            self.assertEqual(found[1], tuple([a * x for x in one[1]] + [b * x for x in other[1]]))
            self.assertEqual(found[2], one[2] + other[2])
            self.assertEqual(list(found[3]), list(one[3]) + self.shifted(one, other))
            self.has_weights(
                found, "ab", 4, lambda word: a * weight_by_walks(one, word) + b * weight_by_walks(other, word)
            )

    def test_behind(self):
        for one, other in self.pairs():
            found = leaves_alone(self, behind, one, other)
            mine, its = weights_by_walks(one, "ab", 4), weights_by_walks(other, "ab", 4)
            self.has_weights(found, "ab", 4, lambda word: sum(
                mine[word[:at]] * its[word[at:]] for at in range(len(word) + 1)
            ))
            many = len(one[1])
            self.assertEqual(found[0], one[0])
            self.assertEqual(found[1], one[1] + tuple([mine[""] * x for x in other[1]]))
            self.assertEqual(found[2], (0,) * many + other[2])
            expected = {arc[:3]: arc[3] for arc in list(one[3]) + self.shifted(one, other)}
            for p, letter, q, w in one[3]:
                for r, begin in enumerate(other[1]):
                    if one[2][q] * begin:
                        key = (p, letter, many + r)
                        expected[key] = expected.get(key, 0) + w * one[2][q] * begin
            self.assertEqual(found[3], tuple(sorted([key + (w,) for key, w in expected.items()])))

    def test_numbers_go_beyond_their_bound(self):
        twice = behind(GREAT, GREAT)
        self.assertEqual(twice[1], (10 ** 6, 10 ** 18))
        self.assertEqual(twice[3][1], (0, "a", 1, 10 ** 18))
        self.assertEqual(mixed(GREAT, GREAT, 1000, 1)[1], (10 ** 9, 10 ** 6))
        again = behind(twice, GREAT)
        for word in words_up_to("ab", 3):
            many = (len(word) + 1) * (len(word) + 2) // 2
            self.assertEqual(weight_of(again, word), many * 10 ** (36 + 6 * len(word)))
        self.assertFalse(is_model(again))

    def test_just_six_states_and_just_more(self):
        def of(many):
            return (PARITY, (1,) * many, (1,) * many, tuple([(p, "b", p, 1) for p in range(many)]))

        for one in range(1, 7):
            for other in range(1, 7):
                for call in (lambda: mixed(of(one), of(other), 1, 1), lambda: behind(of(one), of(other))):
                    if one + other <= 6:
                        self.assertEqual(states_of(call()), one + other)
                        continue
                    with self.assertRaises(TooMany) as caught:
                        call()
                    self.assertEqual(caught.exception.most, 6)


if __name__ == "__main__":
    unittest.main()
