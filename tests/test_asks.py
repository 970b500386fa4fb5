"""[27]: ASKS, what they mean for a WORD, and the form of their answers."""

import unittest

from tests.helpers import (
    CAP, FIRSTS, LASTS, LONELY, ONE, PARITY, any_values, changed, leaves_alone, lists_for_tuples, named_measures,
    some_measures, truths_for_numbers, words_of_length, words_up_to,
)
from tests.plain_rows import all_asks, ideals, plain_meaning
from unwrittenrow.asks import is_answer, is_ask, plain_answer
from unwrittenrow.errors import NoRow

FAR = 2 ** 200


def is_number(thing):
    return type(thing) is int


def plain_is_ask(measure, n, thing):
    if type(thing) is not tuple or not thing or type(thing[0]) is not str:
        return False
    kind = thing[0]
    if kind == "letter":
        return len(thing) == 2 and is_number(thing[1]) and 0 <= thing[1] < n
    if kind not in ("letters", "measure", "first", "last"):
        return False
    if len(thing) != (3 if kind in ("letters", "measure") else 4):
        return False
    i, j = thing[1:3]
    if not (is_number(i) and is_number(j) and 0 <= i <= j <= n):
        return False
    if kind == "letters":
        return j - i <= 200
    if kind == "measure":
        return True
    lot = thing[3]
    return type(lot) is tuple and all(is_number(x) for x in lot) and lot in ideals(measure, kind == "first")


def plain_is_answer(measure, ask, thing):
    letters = [letter for letter, _ in measure[1]]
    i, j = (ask[1], ask[1] + 1) if ask[0] == "letter" else ask[1:3]
    if ask[0] in ("letter", "letters"):
        return type(thing) is str and len(thing) == j - i and all(sign in letters for sign in thing)
    if ask[0] == "measure":
        return is_number(thing) and thing in range(len(measure[0]))
    return thing is None or (is_number(thing) and i <= thing < j)


class Asks(unittest.TestCase):
    def holds(self, measure, n, thing):
        found = leaves_alone(self, is_ask, measure, n, thing)
        self.assertIs(found, plain_is_ask(measure, n, thing), (measure, n, thing))
        return found

    def test_all_of_short_words(self):
        for measure in named_measures()[:5] + [LASTS] + some_measures(71, 10):
            for n in (1, 2, 4):
                for ask in all_asks(measure, n):
                    self.assertIs(leaves_alone(self, is_ask, measure, n, ask), True)

    def test_the_same_with_one_thing_otherwise(self):
        yes = no = 0
        for measure in (FIRSTS, CAP, PARITY, ONE):
            for n in (1, 3):
                for ask in all_asks(measure, n):
                    for other in changed(ask) + truths_for_numbers(ask) + lists_for_tuples(ask):
                        if self.holds(measure, n, other):
                            yes += 1
                        else:
                            no += 1
                    for kind in ("letter", "letters", "measure", "first", "last", "Letter", "", "firs"):
                        self.holds(measure, n, (kind,) + ask[1:])
                        self.holds(measure, n, (kind,) + ask[1:3])
                    for m in (1, 2, 4):
                        self.holds(measure, m, ask)
        self.assertGreater(min(yes, no), 500)

    def test_very_many_places(self):
        for n in (1, 2, 200, 201, 2 ** 64, FAR):
            for i in (-1, 0, 1, n - 201, n - 200, n - 2, n - 1, n, n + 1):
                self.holds(CAP, n, ("letter", i))
                for j in (-1, 0, 1, 200, 201, n - 1, n, n + 1, i, i + 200, i + 201):
                    for rest in (("letters", i, j), ("measure", i, j), ("first", i, j, (2,)), ("last", i, j, (1, 2))):
                        self.holds(CAP, n, rest)
        self.assertIs(is_ask(CAP, FAR, ("letters", FAR - 200, FAR)), True)
        self.assertIs(is_ask(CAP, FAR, ("letters", FAR - 201, FAR)), False)
        self.assertIs(is_ask(CAP, 1000, ("letters", 300, 500)), True)
        self.assertIs(is_ask(CAP, 1000, ("letters", 300, 501)), False)
        self.assertIs(is_ask(CAP, FAR, ("letter", FAR)), False)
        self.assertIs(is_ask(CAP, FAR, ("measure", FAR, FAR)), True)

    def test_ideals_of_the_wrong_side(self):
        # (1,) is a right ideal of FIRSTS, and no left one.
        self.assertIs(is_ask(FIRSTS, 4, ("first", 0, 4, (1,))), True)
        self.assertIs(is_ask(FIRSTS, 4, ("last", 0, 4, (1,))), False)
        self.assertIs(is_ask(LASTS, 4, ("first", 0, 4, (1,))), False)
        self.assertIs(is_ask(LASTS, 4, ("last", 0, 4, (1,))), True)
        met = 0
        for measure in [FIRSTS, LASTS, LONELY] + some_measures(72, 20):
            for right in (True, False):
                for lot in ideals(measure, right):
                    for kind in ("first", "last"):
                        found = self.holds(measure, 3, (kind, 0, 3, lot))
                        met += not found
                    self.holds(measure, 3, ("first", 0, 3, lot[::-1]))
                    self.holds(measure, 3, ("first", 0, 3, list(lot)))
                    self.holds(measure, 3, ("last", 0, 3, lot + (8,)))
            whole = tuple(range(len(measure[0])))
            for kind in ("first", "last"):
                self.assertIs(is_ask(measure, 3, (kind, 0, 3, ())), True)
                self.assertIs(is_ask(measure, 3, (kind, 0, 3, whole)), True)
        self.assertGreater(met, 10)

    def test_any_values(self):
        for thing in any_values():
            for n in (1, 8, FAR):
                self.holds(CAP, n, thing)
                for more in (("letter", thing), ("letters", 0, thing), ("measure", thing, 1), (thing, 0), (thing, 0, 1),
                             ("first", 0, 1, thing), ("last", 0, thing, ()), ("first", thing, 1, ()), (thing,),
                             ("letter", thing, 0), ("measure", 0, 1, thing), ("first", 0, 1, (thing,)), thing):
                    self.holds(CAP, n, more)


class Meanings(unittest.TestCase):
    def test_all_asks_of_short_words(self):
        met = set()
        for measure in named_measures()[:5] + [LASTS] + some_measures(73, 12):
            for n in (1, 2, 4):
                asks = all_asks(measure, n)
                for word in words_of_length("ab", n):
                    for ask in asks:
                        found = plain_answer(measure, word, ask)
                        self.assertEqual(found, plain_meaning(measure, word, ask), (measure, word, ask))
                        self.assertIs(is_answer(measure, ask, found), True)
                        met.add((ask[0], found is None))
        self.assertEqual(met, {(kind, False) for kind in ("letter", "letters", "measure", "first", "last")}
                         | {("first", True), ("last", True)})

    def test_all_places_behind_are_such_places_too(self):
        for measure in (FIRSTS, CAP, LONELY):
            for word in words_of_length("ab", 5):
                for lot in ideals(measure, True):
                    x = plain_answer(measure, word, ("first", 1, 5, lot))
                    for y in range(1, 5):
                        self.assertIs(plain_meaning(measure, word, ("measure", 1, y + 1)) in lot, x is not None and y >= x)
                for lot in ideals(measure, False):
                    x = plain_answer(measure, word, ("last", 0, 4, lot))
                    for y in range(4):
                        self.assertIs(plain_meaning(measure, word, ("measure", y, 4)) in lot, x is not None and y <= x)

    def test_of_long_words(self):
        word = "ab" * 1500
        self.assertEqual(plain_answer(PARITY, word, ("letters", 1401, 1601)), "ba" * 100)
        self.assertEqual(plain_answer(CAP, word, ("first", 1000, 3000, (2,))), 1003)
        self.assertEqual(plain_answer(CAP, word, ("last", 0, 3000, (2,))), 2997)
        self.assertEqual(plain_answer(CAP, word, ("last", 0, 2, (2,))), None)
        self.assertEqual(plain_answer(CAP, "a" * 3000, ("first", 0, 3000, (1, 2))), None)
        self.assertEqual(plain_answer(PARITY, word, ("measure", 0, 3000)), 0)
        leaves_alone(self, plain_answer, CAP, word, ("first", 0, 3000, (2,)))

    def test_letters_of_other_names(self):
        measure = (CAP[0], (("k", 1), ("z", 0)))
        self.assertEqual(plain_answer(measure, "zkkz", ("letters", 1, 4)), "kkz")
        self.assertEqual(plain_answer(measure, "zkkz", ("first", 0, 4, (2,))), 2)


class Answers(unittest.TestCase):
    def holds(self, measure, ask, thing):
        found = leaves_alone(self, is_answer, measure, ask, thing)
        self.assertIs(found, plain_is_answer(measure, ask, thing), (measure, ask, thing))
        return found

    def test_of_each_kind(self):
        things = (
            any_values() + words_up_to("abc", 3) + list(range(-2, 10)) + ["A", "a ", "z", ["a"], ("a",), [0], (0,), 1 << 200]
        )
        met = {True: 0, False: 0}
        for measure in (CAP, PARITY, ONE, (CAP[0], (("a", 0), ("z", 1)))):
            for ask in all_asks(measure, 3):
                for thing in things:
                    met[self.holds(measure, ask, thing)] += 1
        self.assertGreater(met[True], 500)

    def test_of_empty_stretches(self):
        for i in (0, 3, FAR):
            for thing in (None, 0, 1, 2, 3, i - 1, i, i + 1, "", "a", True, ()):
                for ask in (("letters", i, i), ("measure", i, i), ("first", i, i, (2,)), ("last", i, i, (0, 1, 2))):
                    self.holds(CAP, ask, thing)
        self.assertIs(is_answer(CAP, ("letters", 3, 3), ""), True)
        self.assertIs(is_answer(CAP, ("first", 3, 3, (2,)), 3), False)
        self.assertIs(is_answer(CAP, ("last", 3, 3, (2,)), None), True)

    def test_of_very_many_places(self):
        for ask in (("first", 5, FAR, (2,)), ("last", 5, FAR, (1, 2))):
            for thing in (4, 5, FAR - 1, FAR, True, None, False, 2 ** 100):
                self.holds(CAP, ask, thing)
        self.holds(CAP, ("letters", FAR - 200, FAR), "ab" * 100)
        self.holds(CAP, ("letters", FAR - 200, FAR), "ab" * 100 + "a")

    def test_any_values_within(self):
        for thing in any_values():
            for ask in (("letter", 2), ("letters", 1, 3), ("measure", 1, 3), ("first", 1, 3, (2,))):
                self.holds(CAP, ask, thing)
                self.holds(CAP, ask, (thing,))
                self.holds(CAP, ask, [thing])
        self.assertIs(is_answer(CAP, ("letter", 2), NoRow()), False)


if __name__ == "__main__":
    unittest.main()
