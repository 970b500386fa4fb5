"""[15]: WISHES."""

import itertools
import unittest

from tests.helpers import (
    PARITY, any_values, changed, leaves_alone, lists_for_tuples, some_wishes, truths_for_numbers,
    words_of_length, words_up_to,
)
from unwrittenrow.errors import TooMany
from unwrittenrow.forms import is_measure, letters_of
from unwrittenrow.measures import measure_of
from unwrittenrow.wishes import (
    at_least, both, counted, either, ending, holding, is_wish, measure_of_wishes, not_taken, takes,
)


def plain_wish(thing):
    """Return whether a thing is a WISH, told in other words."""
    if type(thing) is not tuple or len(thing) != 2 or not all(type(part) is tuple for part in thing):
        return False
    steps, ends = thing
    if len(steps) not in range(1, 7) or not all(type(row) is tuple for row in steps):
        return False
    spot = lambda one: type(one) is int and one in range(len(steps))
    letter = lambda one: type(one) is str and len(one) == 1 and one in "abcdefghijklmnopqrstuvwxyz"
    for row in steps:
        if len(row) not in range(1, 7) or not all(type(item) is tuple and len(item) == 2 for item in row):
            return False
        if not all(letter(item[0]) and spot(item[1]) for item in row):
            return False
        told = [item[0] for item in row]
        if told != sorted(set(told)) or told != [item[0] for item in steps[0]]:
            return False
    return all(spot(end) for end in ends) and list(ends) == sorted(set(ends))


def spot_after(wish, spot, word):
    """Return the SPOT to which a WORD leads from a SPOT."""
    for letter in word:
        spot = [to for one, to in wish[0][spot] if one == letter][0]
    return spot


def fewest_spots(letters, one, other, joined):
    """Return how many SPOTS are needed, by turning the WISH back twice (as Brzozowski does)."""
    spots = list(itertools.product(range(len(one[0])), range(len(other[0]))))
    steps = {
        (x, y): {letter: (spot_after(one, x, letter), spot_after(other, y, letter)) for letter in letters}
        for x, y in spots
    }
    ends = {(x, y) for x, y in spots if joined(x in one[1], y in other[1])}

    def turned(steps, first, ends):
        begin = frozenset(ends)
        found, rest = {}, [begin]
        while rest:
            group = rest.pop()
            if group in found:
                continue
            found[group] = {
                letter: frozenset([spot for spot in steps if steps[spot][letter] in group]) for letter in letters
            }
            rest.extend(found[group].values())
        return found, begin, {group for group in found if first in group}

    return len(turned(*turned(steps, (0, 0), ends))[0])


def kinds_by_hand(letters, wishes, most):
    """Return the list of the first WORDS of each kind of EVEN WORDS, at most so many and one more.

    All WORDS of at most as many LETTERS as a WISH may have SPOTS are put ahead and behind.
    """
    around = words_up_to(letters, max([len(wish[0]) for wish in wishes] + [1]) - 1)

    def mark(word):
        return tuple([
            tuple([
                spot_after(wish, spot_after(wish, spot_after(wish, 0, ahead), word), after) in wish[1]
                for after in around
            ])
            for wish in wishes for ahead in around
        ])

    firsts, marks, length = [""], [mark("")], 0
    while True:
        new = False
        length += 1
        for word in words_of_length(letters, length):
            # No WORD is the first of its kind if what it begins with is not.
            if word[:-1] in firsts:
                told = mark(word)
                if told not in marks:
                    new = True
                    firsts.append(word)
                    marks.append(told)
                    if len(firsts) > most:
                        return firsts, marks, mark
        if not new:
            return firsts, marks, mark


class OfAnyValue(unittest.TestCase):
    def asked(self, thing):
        with self.subTest(thing=repr(thing)[:200]):
            answer = leaves_alone(self, is_wish, thing)
            self.assertIs(type(answer), bool)
            self.assertIs(answer, plain_wish(thing))
        return answer

    def test_values_of_any_kind(self):
        for thing in any_values():
            self.asked(thing)

    def test_wishes_otherwise_in_one_place(self):
        wishes = some_wishes(1, 15) + [holding("ab", "ab"), counted("abc", "b", 6, ()), at_least("q", "q", 5)]
        for wish in wishes:
            self.assertTrue(self.asked(wish))
            for other in changed(wish):
                self.asked(other)
            for other in truths_for_numbers(wish) + lists_for_tuples(wish):
                self.assertFalse(self.asked(other))

    def test_bounds(self):
        for many in range(0, 8):
            row = tuple([(letter, 0) for letter in "abcdefg"[:many]])
            self.assertIs(is_wish(((row,), ())), 1 <= many <= 6)
            self.assertIs(is_wish((tuple([(("a", 0),) for _ in range(many)]), ())), 1 <= many <= 6)
        row = (("a", 0), ("b", 1))
        self.assertTrue(is_wish(((row, row), ())))
        self.assertTrue(is_wish(((row, row), (0, 1))))
        for ends in ((1, 0), (0, 0), (2,), (-1,), (0, 1, 2), [0], None, 0, (True,), ("a",)):
            self.assertFalse(is_wish(((row, row), ends)))
        for other in ((("a", 0), ("b", 2)), (("a", 0),), (("b", 1), ("a", 0)), (("a", 0), ("c", 1)), (("a", -1), ("b", 0))):
            self.assertFalse(is_wish(((row, other), ())))
            self.assertFalse(is_wish(((other, row), ())))
        self.assertFalse(is_wish((((("a", 0), ("a", 1)), (("a", 0), ("a", 1))), ())))
        self.assertFalse(is_wish(((row, row),)))
        self.assertFalse(is_wish(((row, row), (), ())))


class TheMeasure(unittest.TestCase):
    def compare(self, letters, wishes):
        """Hold measure_of_wishes against WORDS put ahead and behind; return the number of kinds."""
        firsts, marks, mark = kinds_by_hand(letters, wishes, 8)
        if len(firsts) > 8:
            with self.assertRaises(TooMany) as caught:
                measure_of_wishes(letters, wishes)
            self.assertEqual(caught.exception.most, 8)
            return 9
        measure, lots = leaves_alone(self, measure_of_wishes, letters, wishes)
        self.assertTrue(is_measure(measure))
        self.assertEqual(letters_of(measure), letters)
        self.assertEqual(len(measure[0]), len(firsts))
        self.assertEqual([measure_of(measure, word) for word in firsts], list(range(len(firsts))))
        self.assertEqual(len(lots), len(wishes))
        for word in words_up_to(letters, 4):
            self.assertEqual(measure_of(measure, word), marks.index(mark(word)))
            for wish, lot in zip(wishes, lots):
                self.assertIs(measure_of(measure, word) in lot, spot_after(wish, 0, word) in wish[1])
        for lot in lots:
            self.assertIs(type(lot), tuple)
            self.assertEqual(list(lot), sorted(set(lot)))
        return len(firsts)

    def test_no_wishes(self):
        self.assertEqual(measure_of_wishes("ab", []), ((((0,),), (("a", 0), ("b", 0))), ()))
        self.assertEqual(measure_of_wishes("xyz", ()), ((((0,),), (("x", 0), ("y", 0), ("z", 0))), ()))

    def test_one_wish(self):
        sizes = [self.compare("ab", [wish]) for wish in some_wishes(4, 150, "ab", 3)]
        self.assertTrue({1, 2, 3, 9} <= set(sizes))
        for wish in some_wishes(5, 20, "x", 6):
            self.compare("x", [wish])
        for wish in some_wishes(6, 20, "abc", 3):
            self.compare("abc", [wish])

    def test_several_wishes(self):
        sizes = []
        for wishes in zip(some_wishes(7, 80, "ab", 2), some_wishes(8, 80, "ab", 2), some_wishes(9, 80, "ab", 3)):
            sizes.append(self.compare("ab", list(wishes[:2])))
            sizes.append(self.compare("ab", wishes))
        self.assertTrue({2, 3, 4, 9} <= set(sizes))

    def test_just_eight_and_more(self):
        self.assertEqual(self.compare("a", [counted("a", "a", 2, (1,)), counted("a", "a", 6, (1,))]), 6)
        self.assertEqual(self.compare("ab", [counted("ab", "a", 4, (1,)), counted("ab", "b", 2, (0,))]), 8)
        self.assertEqual(self.compare("ab", [counted("ab", "a", 3, (1,)), counted("ab", "b", 3, (0,))]), 9)
        self.assertEqual(self.compare("abc", [counted("abc", letter, 2, (1,)) for letter in "abc"]), 8)
        self.assertEqual(self.compare("ab", [ending("ab", "aa"), ending("ab", "b")]), 5)
        self.assertEqual(self.compare("ab", [at_least("ab", "a", 4), at_least("ab", "b", 0)]), 5)
        self.assertEqual(self.compare("ab", [at_least("ab", "a", 2), at_least("ab", "b", 2)]), 9)

    def test_spots_that_are_not_needed_make_no_kinds(self):
        self.assertEqual(measure_of_wishes("ab", [counted("ab", "b", 6, (1, 3, 5))]), (PARITY, ((1,),)))
        self.assertEqual(len(measure_of_wishes("ab", [counted("ab", "b", 6, ())])[0][0]), 1)
        self.assertEqual(measure_of_wishes("ab", [counted("ab", "b", 5, (0, 1, 2, 3, 4))])[1], ((0,),))
        # A SPOT to which nothing leads, and from which it would go on in another way.
        apart = (((("a", 0), ("b", 0)), (("a", 0), ("b", 1))), (1,))
        self.assertEqual(len(measure_of_wishes("ab", [apart])[0][0]), 1)

    def test_the_same_wish_twice_and_none_taken(self):
        odd = counted("ab", "b", 2, (1,))
        self.assertEqual(measure_of_wishes("ab", [odd, odd, not_taken(odd)]), (PARITY, ((1,), (1,), (0,))))

    def test_what_is_told_of_the_document(self):
        self.assertEqual(self.compare("ab", [holding("ab", "ab")]), 5)
        self.assertEqual(self.compare("ab", [holding("ab", "bb")]), 6)


class Takes(unittest.TestCase):
    def test_takes(self):
        for wish in some_wishes(11, 30):
            for word in words_up_to("ab", 6):
                self.assertIs(leaves_alone(self, takes, wish, word), spot_after(wish, 0, word) in wish[1])
        self.assertIs(takes(counted("ab", "b", 2, (1,)), "ab" * 2001), True)

    def test_not_taken(self):
        for wish in some_wishes(12, 30) + [counted("ab", "a", 3, ()), counted("ab", "a", 3, (0, 1, 2))]:
            other = leaves_alone(self, not_taken, wish)
            self.assertTrue(is_wish(other))
            for word in words_up_to("ab", 6):
                self.assertIs(takes(other, word), not takes(wish, word))


class SomeWishes(unittest.TestCase):
    def compare(self, wish, letters, plain, length):
        self.assertTrue(is_wish(wish))
        self.assertEqual("".join([letter for letter, _ in wish[0][0]]), letters)
        for word in words_up_to(letters, length):
            with self.subTest(word=word):
                self.assertIs(takes(wish, word), plain(word))

    def test_holding_and_ending(self):
        for letters, length in (("ab", 9), ("a", 9), ("abc", 6)):
            for word in words_up_to(letters, 3)[1:]:
                self.compare(holding(letters, word), letters, lambda one: word in one, min(length, 7))
                self.compare(ending(letters, word), letters, lambda one: one.endswith(word), min(length, 7))
        for word in words_of_length("ab", 5):
            self.compare(holding("ab", word), "ab", lambda one: word in one, 9)
            self.compare(ending("ab", word), "ab", lambda one: one.endswith(word), 9)

    def test_of_six_letters(self):
        letters = "bdfhjz"
        self.compare(holding(letters, "bzb"), letters, lambda one: "bzb" in one, 4)
        self.compare(ending(letters, "zz"), letters, lambda one: one.endswith("zz"), 4)
        self.compare(at_least(letters, "j", 2), letters, lambda one: one.count("j") >= 2, 4)
        self.compare(counted(letters, "d", 2, (0,)), letters, lambda one: one.count("d") % 2 == 0, 4)

    def test_at_least(self):
        for letters, letter in (("ab", "a"), ("ab", "b"), ("abc", "b"), ("x", "x")):
            for many in range(6):
                self.compare(
                    at_least(letters, letter, many), letters, lambda one: one.count(letter) >= many, 7
                )

    def test_counted(self):
        for turns in range(1, 7):
            lots = [(), tuple(range(turns)), (0,), (turns - 1,), tuple(range(0, turns, 2))]
            for lot in lots:
                for letters, letter in (("ab", "a"), ("abc", "c"), ("x", "x")):
                    self.compare(
                        counted(letters, letter, turns, lot), letters,
                        lambda one: one.count(letter) % turns in lot, 7,
                    )


class Joined(unittest.TestCase):
    def compare(self, letters, one, other):
        sizes = []
        for call, joined in ((both, lambda x, y: x and y), (either, lambda x, y: x or y)):
            many = fewest_spots(letters, one, other, joined)
            sizes.append(many)
            if many > 6:
                with self.assertRaises(TooMany) as caught:
                    call(one, other)
                self.assertEqual(caught.exception.most, 6)
                continue
            wish = leaves_alone(self, call, one, other)
            self.assertTrue(is_wish(wish))
            self.assertEqual(len(wish[0]), many)
            self.assertEqual(call(one, other), wish)
            for word in words_up_to(letters, 6):
                self.assertIs(takes(wish, word), joined(takes(one, word), takes(other, word)))
        return sizes

    def test_of_wishes_made_by_chance(self):
        sizes = []
        for one, other in zip(some_wishes(21, 150), some_wishes(22, 150)):
            sizes.extend(self.compare("ab", one, other))
        self.assertTrue({1, 2, 3, 4, 5, 6, 7} <= set(sizes))
        for one, other in zip(some_wishes(23, 40, "abc", 3), some_wishes(24, 40, "abc", 3)):
            self.compare("abc", one, other)

    def test_just_six_and_just_more(self):
        two, three = counted("ab", "a", 2, (0,)), counted("ab", "b", 3, (0,))
        self.assertEqual(self.compare("ab", two, three), [6, 6])
        self.assertEqual(self.compare("a", counted("a", "a", 2, (0,)), counted("a", "a", 3, (0,))), [6, 6])
        self.assertEqual(self.compare("a", at_least("a", "a", 5), counted("a", "a", 2, (0,)))[0], 7)
        self.assertEqual(self.compare("a", at_least("a", "a", 5), counted("a", "a", 2, (1,)))[0], 6)
        self.assertEqual(self.compare("ab", at_least("ab", "a", 5), at_least("ab", "b", 0)), [6, 1])

    def test_with_itself_and_with_what_it_does_not_take(self):
        wish = holding("ab", "abab")
        self.assertEqual(self.compare("ab", wish, wish), [5, 5])
        self.assertEqual(self.compare("ab", wish, not_taken(wish)), [1, 1])
        self.assertFalse(takes(both(wish, not_taken(wish)), "abab"))
        self.assertTrue(takes(either(wish, not_taken(wish)), ""))

    def test_what_is_not_reached_is_left_out(self):
        wide = counted("ab", "b", 6, (0, 2, 4))
        self.assertEqual(self.compare("ab", wide, wide), [2, 2])
        self.assertEqual(len(both(wide, wide)[0]), 2)


if __name__ == "__main__":
    unittest.main()
