"""[2], [12]: whether any value is what it is asked to be."""

import math
import unittest

from tests.helpers import (
    CAP, FIRSTS, LONELY, ONE, PARITY, any_values, changed, leaves_alone, lists_for_tuples,
    named_measures, some_measures, some_models, truths_for_numbers,
)
from unwrittenrow.forms import (
    are_coins, are_facts, is_block, is_enclosure, is_fraction, is_integer, is_letter, is_lot,
    is_measure, is_member, is_model, is_name, is_word, is_word_of, letters_of,
)

MODEL = (PARITY, (1, 0), (1, 10 ** 6), ((0, "a", 0, 2), (0, "b", 1, 1), (1, "a", 0, 10 ** 6)))
COINS = (7, (((), 0, True), ((), 2, False), ((0, 2), 1, False), ((0, 2), 3, True), ((0, 3), 0, True)))
FACTS = ((0, 8, (1,)), (2, 4, ()), (4, 8, (0, 1)))


# The definitions once more, in other words, for things that are changed by the thousand.

def number(thing, low=None, high=None):
    if type(thing) is not int:
        return False
    return (low is None or thing >= low) and (high is None or thing <= high)


def row_of(thing, kinds):
    return type(thing) is tuple and len(thing) == len(kinds) and all(
        kind(item) for kind, item in zip(kinds, thing)
    )


def rising(rows):
    return list(rows) == sorted(set(rows))


def plain_letter(thing):
    return type(thing) is str and thing in list("abcdefghijklmnopqrstuvwxyz")


def plain_measure(thing):
    if type(thing) is not tuple or len(thing) != 2:
        return False
    table, values = thing
    if type(table) is not tuple or type(values) is not tuple:
        return False
    k = len(table)
    if k not in range(1, 9) or len(values) not in range(1, 7):
        return False
    member = lambda x: number(x, 0, k - 1)
    if not all(row_of(row, [member] * k) for row in table):
        return False
    if not all(row_of(value, [plain_letter, member]) for value in values):
        return False
    if not rising([letter for letter, _ in values]):
        return False
    if any(table[0][x] != x or table[x][0] != x for x in range(k)):
        return False
    return all(
        table[table[x][y]][z] == table[x][table[y][z]]
        for x in range(k) for y in range(k) for z in range(k)
    )


def plain_lot(measure, thing):
    k = len(measure[0])
    return type(thing) is tuple and all(number(x, 0, k - 1) for x in thing) and rising(thing)


def plain_model(thing):
    if type(thing) is not tuple or len(thing) != 4 or not plain_measure(thing[0]):
        return False
    measure, begins, ends, arcs = thing
    if not all(type(part) is tuple for part in (begins, ends, arcs)):
        return False
    if len(begins) != len(ends) or len(begins) not in range(1, 7):
        return False
    if not all(number(weight, 0, 10 ** 6) for weight in begins + ends):
        return False
    state = lambda p: number(p, 0, len(begins) - 1)
    known = lambda letter: plain_letter(letter) and letter in [one for one, _ in measure[1]]
    if not all(row_of(arc, [state, known, state, lambda w: number(w, 1, 10 ** 6)]) for arc in arcs):
        return False
    return rising(arcs) and len({arc[:3] for arc in arcs}) == len(arcs)


def plain_block(thing):
    return row_of(thing, [number, number]) and 0 <= thing[0] < thing[1]


def plain_facts(measure, n, thing):
    if type(thing) is not tuple:
        return False
    lot = lambda one: plain_lot(measure, one)
    if not all(row_of(fact, [number, number, lot]) and plain_block(fact[:2]) for fact in thing):
        return False
    if any(j > n for i, j, _ in thing) or not rising(thing):
        return False
    places = [set(range(i, j)) for i, j, _ in thing]
    return all(
        one != other and (not one & other or one < other or other < one)
        for at, one in enumerate(places) for other in places[at + 1:]
    )


def plain_coins(thing):
    truth = lambda one: type(one) is bool
    name = lambda one: one == () and type(one) is tuple or plain_block(one)
    if not row_of(thing, [lambda seed: number(seed, 0), lambda told: type(told) is tuple]):
        return False
    told = thing[1]
    if not all(row_of(coin, [name, lambda k: number(k, 0), truth]) for coin in told):
        return False
    return rising([(one, k) for one, k, _ in told])


class OfAnyValue(unittest.TestCase):
    def asked(self, question, thing):
        answer = leaves_alone(self, question, thing)
        self.assertIn(answer, (True, False))
        self.assertIs(type(answer), bool)
        return answer

    def holds_alike(self, question, plain, things):
        for thing in things:
            with self.subTest(thing=repr(thing)[:200]):
                self.assertIs(self.asked(question, thing), bool(plain(thing)))

    def test_values_of_any_kind(self):
        self.holds_alike(is_integer, number, any_values())
        self.holds_alike(is_letter, plain_letter, any_values())
        self.holds_alike(is_measure, plain_measure, any_values())
        self.holds_alike(is_model, plain_model, any_values())
        self.holds_alike(is_block, plain_block, any_values())
        self.holds_alike(are_coins, plain_coins, any_values())
        for measure in (PARITY, ONE, CAP):
            self.holds_alike(lambda thing: is_lot(measure, thing), lambda thing: plain_lot(measure, thing), any_values())
            self.holds_alike(
                lambda thing: is_member(measure, thing),
                lambda thing: number(thing, 0, len(measure[0]) - 1), any_values(),
            )
            self.holds_alike(
                lambda thing: are_facts(measure, 5, thing), lambda thing: plain_facts(measure, 5, thing),
                any_values(),
            )
        for thing in any_values():
            for question in (is_fraction, is_word, is_name, is_enclosure):
                self.asked(question, thing)
            self.asked(lambda it: is_word_of(PARITY, it), thing)

    def test_a_truth_is_no_number_and_a_list_no_tuple(self):
        questions = [
            (is_fraction, (1, 1)), (is_measure, PARITY), (is_measure, CAP), (is_model, MODEL),
            (lambda it: is_lot(CAP, it), (0, 1)), (is_block, (0, 1)), (is_name, (0, 1)), (is_name, ()),
            (lambda it: are_facts(PARITY, 9, it), FACTS), (are_coins, COINS), (is_enclosure, (0, 1, 1)),
            (is_integer, 1), (lambda it: is_member(PARITY, it), 1), (is_integer, 0),
        ]
        for question, thing in questions:
            self.assertTrue(self.asked(question, thing))
            for other in truths_for_numbers(thing) + lists_for_tuples(thing):
                with self.subTest(thing=repr(other)):
                    self.assertFalse(self.asked(question, other))

    def test_a_thing_that_is_otherwise_in_one_place(self):
        for measure in named_measures()[:5] + some_measures(1, 20):
            self.holds_alike(is_measure, plain_measure, [measure] + changed(measure))
        for model in [MODEL] + some_models(2, 12) + some_models(3, 4, CAP, 6):
            self.holds_alike(is_model, plain_model, [model] + changed(model))
        self.holds_alike(are_coins, plain_coins, [COINS] + changed(COINS))
        for facts in (FACTS, ((1, 4, (0,)), (2, 3, (1,)), (5, 8, ()))):
            self.holds_alike(
                lambda it: are_facts(PARITY, 8, it), lambda it: plain_facts(PARITY, 8, it),
                [facts] + changed(facts),
            )
        for lot in ((), (0,), (0, 2), (0, 1, 2)):
            self.holds_alike(lambda it: is_lot(CAP, it), lambda it: plain_lot(CAP, it), [lot] + changed(lot))


class SmallThings(unittest.TestCase):
    def yes(self, question, *things):
        for thing in things:
            with self.subTest(thing=repr(thing)[:100]):
                self.assertIs(leaves_alone(self, question, thing), True)

    def no(self, question, *things):
        for thing in things:
            with self.subTest(thing=repr(thing)[:100]):
                self.assertIs(leaves_alone(self, question, thing), False)

    def test_integers(self):
        self.yes(is_integer, 0, 1, -1, 10 ** 300)
        self.no(is_integer, True, False, None, "1", (1,), [1], {})

    def test_fractions(self):
        self.yes(is_fraction, (0, 1), (1, 1), (-3, 2), (10 ** 199, 10 ** 199 + 1), (5, 6))
        self.no(is_fraction, (0, 2), (2, 2), (-4, 2), (1, 0), (1, -1), (0, 0), (1,), (1, 2, 3), 1, None)
        for n in range(-12, 13):
            for d in range(-3, 13):
                self.assertIs(is_fraction((n, d)), d >= 1 and math.gcd(n, d) == 1)

    def test_letters_and_words(self):
        self.yes(is_letter, *"abcdefghijklmnopqrstuvwxyz")
        self.no(is_letter, "", "aa", "A", "Z", "`", "{", " ", "\n", "0", "~", 0, None, ("a",), ["a"])
        self.yes(is_word, "", "a", "az", "z" * 3000)
        self.no(is_word, "aB", "a ", "a\n", "`", "{", " ", None, 0, (), [], ("a",), ["a"], {"a": "b"})

    def test_words_of_a_measure(self):
        of_parity = lambda thing: is_word_of(PARITY, thing)
        self.yes(of_parity, "", "a", "b", "abba", "ab" * 1500)
        self.no(of_parity, "c", "abc", "A", "a b", "\n", None, 0, (), ("a",), ["a", "b"], {"a": "b"}, True)
        self.no(lambda thing: is_word_of((((0,),), (("b", 0), ("x", 0))), thing), "a", "bxy", "w")

    def test_letters_of(self):
        self.assertEqual(letters_of(PARITY), "ab")
        self.assertEqual(letters_of((((0,),), (("b", 0), ("q", 0), ("z", 0)))), "bqz")
        self.assertEqual(letters_of((((0,),), (("k", 0),))), "k")

    def test_measures_at_their_bounds(self):
        for k in range(1, 10):
            cycle = tuple([tuple([(x + y) % k for y in range(k)]) for x in range(k)])
            (self.yes if k <= 8 else self.no)(is_measure, (cycle, (("a", k - 1),)))
        self.no(is_measure, ((), (("a", 0),)), (((),), (("a", 0),)))
        for many in range(0, 8):
            values = tuple([(letter, 0) for letter in "abcdxyz"[:many]])
            (self.yes if 1 <= many <= 6 else self.no)(is_measure, (((0,),), values))
        table = PARITY[0]
        self.no(is_measure, (table, (("a", 2),)), (table, (("a", -1),)))
        self.no(is_measure, (table, (("b", 0), ("a", 1))), (table, (("a", 0), ("a", 1))))
        self.no(is_measure, (table, (("a", 0), ("a", 0))), (table, (("ab", 0),)), (table, (("", 0),)))
        self.no(is_measure, (((0, 1), (1, 2)), (("a", 0),)), (((0, 1), (1, -1)), (("a", 0),)))
        self.no(is_measure, (((0, 1), (1,)), (("a", 0),)), (((0, 1), (1, 0, 0)), (("a", 0),)))
        self.no(is_measure, (((0, 1), (1, 0), (0, 0)), (("a", 0),)), (((0, 1, 2), (1, 0, 0)), (("a", 0),)))

    def test_tables_that_are_not_associative(self):
        # 1 * (1 * 2) is 1 * 1, so 2, but (1 * 1) * 2 is 2 * 2, so 0.
        self.no(is_measure, (((0, 1, 2), (1, 2, 1), (2, 1, 0)), (("a", 1),)))
        self.no(is_measure, (((0, 1, 2), (1, 2, 2), (2, 0, 0)), (("a", 1),)))

    def test_tables_in_which_one_side_of_0_alone_leaves_what_stands_there(self):
        rows = tuple([(0, 1, 2) for _ in range(3)])
        columns = tuple([(x, x, x) for x in range(3)])
        self.no(is_measure, (rows, (("a", 1),)), (columns, (("a", 1),)))
        # Both are associative.
        for table in (rows, columns):
            for x in range(3):
                for y in range(3):
                    for z in range(3):
                        self.assertEqual(table[table[x][y]][z], table[x][table[y][z]])
        self.yes(is_measure, FIRSTS, LONELY)

    def test_members_and_lots(self):
        member, lot = (lambda thing: is_member(CAP, thing)), (lambda thing: is_lot(CAP, thing))
        self.yes(member, 0, 1, 2)
        self.no(member, 3, -1, True, False, "0", None, (0,))
        self.yes(lot, (), (0,), (2,), (0, 2), (0, 1, 2))
        self.no(lot, (2, 0), (1, 1), (3,), (-1, 0), (0, 1, 2, 3), [0], {0: 1}, "", None, 0, (True,), ((0,),))

    def test_models_at_their_bounds(self):
        def model(begins, ends, arcs=(), measure=PARITY):
            return (measure, begins, ends, arcs)

        for s in range(0, 8):
            zeros = tuple([0 for _ in range(s)])
            (self.yes if 1 <= s <= 6 else self.no)(is_model, model(zeros, zeros))
        self.yes(is_model, model((10 ** 6,), (0,)), model((0,), (10 ** 6,)))
        self.no(is_model, model((10 ** 6 + 1,), (0,)), model((0,), (10 ** 6 + 1,)))
        self.no(is_model, model((-1,), (0,)), model((0,), (-1,)), model((0, 0), (0,)), model((0,), (0, 0)))
        arc = lambda *told: model((1, 0), (1, 0), (told,))
        self.yes(is_model, arc(0, "a", 1, 1), arc(1, "b", 0, 10 ** 6))
        self.no(is_model, arc(0, "a", 1, 0), arc(0, "a", 1, 10 ** 6 + 1), arc(0, "a", 1, -1))
        self.no(is_model, arc(2, "a", 1, 1), arc(0, "a", 2, 1), arc(-1, "a", 1, 1), arc(0, "a", -1, 1))
        self.no(is_model, arc(0, "c", 1, 1), arc(0, "ab", 1, 1), arc(0, "", 1, 1), arc(0, 0, 1, 1))
        self.no(is_model, arc(0, "a", 1), arc(0, "a", 1, 1, 1), arc())
        one, two = (0, "a", 1, 5), (0, "b", 0, 1)
        self.yes(is_model, model((1, 0), (1, 0), (one, two)))
        self.no(is_model, model((1, 0), (1, 0), (two, one)), model((1, 0), (1, 0), (one, one)))
        self.no(is_model, model((1, 0), (1, 0), ((0, "a", 1, 4), one)), model((1, 0), (1, 0), (one, (0, "a", 1, 4))))
        self.no(is_model, model((1,), (1,), (), (((0, 1), (1, 2)), (("a", 0),))), MODEL[:3], MODEL + (0,))

    def test_blocks_and_names(self):
        self.yes(is_block, (0, 1), (3, 4), (0, 2 ** 200), (2 ** 200, 2 ** 200 + 1))
        self.no(is_block, (), (3, 3), (4, 3), (-1, 3), (0,), (0, 1, 2), [0, 1], (0, True), (False, 1), None, "ab")
        self.yes(is_name, (), (0, 1), (0, 2 ** 200))
        self.no(is_name, [], (3, 3), (-1, 3), (0,), (0, 1, 2), ((),), None, "", 0, False, {})

    def test_facts_beside_in_and_across_one_another(self):
        def facts(*blocks):
            return tuple([(i, j, (0,)) for i, j in blocks])

        nine = lambda thing: are_facts(PARITY, 9, thing)
        self.yes(nine, (), facts((0, 9)), facts((0, 3), (3, 6), (6, 9)), facts((0, 3), (0, 9), (3, 9)))
        self.yes(nine, facts((0, 9), (1, 8), (2, 7), (3, 4)), facts((0, 1), (0, 2), (0, 3), (2, 3)))
        self.no(nine, facts((0, 3), (2, 5)), facts((0, 5), (1, 6)), facts((0, 9), (1, 4), (3, 5)))
        self.no(nine, facts((0, 2), (1, 3), (5, 6)), facts((5, 8), (6, 9)))
        self.no(nine, facts((0, 10)), facts((9, 10)), facts((3, 3)), facts((4, 3)), facts((-1, 3)))
        self.no(nine, facts((1, 2), (1, 2)), ((1, 2, (0,)), (1, 2, (1,))), ((1, 2, (0, 1)), (1, 2, (1,))))
        self.no(nine, facts((3, 4), (1, 2)), facts((0, 9), (0, 3)), facts((1, 2), (0, 9)))
        self.yes(nine, ((1, 2, ()),), ((1, 2, (0, 1)),))
        self.no(nine, ((1, 2, (1, 0)),), ((1, 2, (2,)),), ((1, 2, [0]),), ((1, 2),), ((1, 2, (0,), 0),), (0, 1, ()))
        self.yes(nine, tuple([(i, i + 1, ()) for i in range(9)]))
        self.yes(lambda thing: are_facts(PARITY, 0, thing), ())
        self.no(lambda thing: are_facts(PARITY, 0, thing), ((0, 1, ()),), None, [])
        far = 2 ** 200
        self.yes(lambda thing: are_facts(PARITY, far, thing), ((0, far, (0,)), (far - 1, far, (1,))))
        self.no(lambda thing: are_facts(PARITY, far, thing), ((0, far + 1, (0,)),))

    def test_facts_of_all_pairs_of_blocks(self):
        blocks = [(i, j) for i in range(6) for j in range(i + 1, 7)]
        for one in blocks:
            for other in blocks:
                thing = (one + ((0,),), other + ((1,),))
                self.assertIs(are_facts(PARITY, 6, thing), bool(plain_facts(PARITY, 6, thing)))

    def test_coins(self):
        self.yes(are_coins, (0, ()), COINS, (10 ** 60, ()), (1, (((0, 1), 0, False),)))
        self.yes(are_coins, (0, tuple([((), k, True) for k in range(200)])))
        self.no(are_coins, (-1, ()), (0, []), (True, ()), (0,), (0, (), ()), (None, ()), ("7", ()), None)
        self.no(are_coins, (0, (((), -1, True),)), (0, (((), 0, 1),)), (0, (((), 0, 0),)), (0, (((), True, True),)))
        self.no(are_coins, (0, (((1, 1), 0, True),)), (0, (((), 0),)), (0, (((), 0, True, True),)))
        self.no(are_coins, (0, (((), 0, True), ((), 0, False))), (0, (((), 0, False), ((), 0, True))))
        self.no(are_coins, (0, (((), 0, True), ((), 0, True))), (0, (((), 1, True), ((), 0, True))))
        self.no(are_coins, (0, (((0, 2), 0, True), ((), 0, True))), (0, (((0, 3), 0, True), ((0, 2), 9, True))))
        self.yes(are_coins, (0, (((0, 2), 9, True), ((0, 3), 0, True), ((1, 2), 0, True))))

    def test_enclosures(self):
        self.yes(is_enclosure, (0, 0, 0), (5, 5, 2 ** 200), (0, 9, 1), (7, 8, 0))
        self.no(is_enclosure, (6, 5, 0), (-1, 5, 0), (0, 5, -1), (-2, -1, 0), (0, 0), (0, 0, 0, 0), [0, 0, 0])
        self.no(is_enclosure, (False, 1, 0), (0, True, 0), (0, 1, False), ("0", 1, 0), (0, None, 0), None, 0, ())


if __name__ == "__main__":
    unittest.main()
