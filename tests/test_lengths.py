"""[19]: COURSES, lengths and LOTS of MODELS."""

import itertools
import random
import unittest

from tests.helpers import (
    CAP, FIRSTS, ONE, PARITY, leaves_alone, measure_by_table, some_measures, some_models, weights_by_walks,
    words_of_length,
)
from unwrittenrow.forms import is_same_value
from unwrittenrow.lengths import (
    has_length, item_at, least_course, length_from, lengths_of, lot_of_length, lots_of,
)

FAR = (2 ** 200, 2 ** 200 - 1, 10 ** 60, 10 ** 60 + 1, 3 ** 100, 2 ** 199 + 77)
EIGHT = tuple([tuple([(x + y) % 8 for y in range(8)]) for x in range(8)])


def items_of(course, many):
    firsts, turns = course
    return [firsts[n] if n < len(firsts) else turns[(n - len(firsts)) % len(turns)] for n in range(many)]


def least_by_search(course):
    """Return the LEAST COURSE, by trying all sizes; items are the same if they look the same."""
    firsts, turns = course
    whole = items_of(course, len(firsts) + 3 * len(turns))
    shown = [repr(item) for item in whole]
    for start in range(len(firsts) + 1):
        for size in range(1, len(turns) + 1):
            if items_of((shown[:start], shown[start:start + size]), len(whole)) == shown:
                return (tuple(whole[:start]), tuple(whole[start:start + size]))


def power(relation, n, stands, table):
    """Return a relation of STANDS that is put together n times, by doubling."""
    found = {(p, p, 0) for p in {p for p, _, _ in stands} | {q for _, q, _ in stands}}
    while n:
        if n % 2:
            found = joined(found, relation, table)
        relation = joined(relation, relation, table)
        n //= 2
    return found


def joined(one, other, table):
    return {(p, q, table[x][y]) for p, r, x in one for s, q, y in other if r == s}


def lot_by_doubling(model, n):
    measure, begins, ends, arcs = model
    stands = {(p, q, dict(measure[1])[letter]) for p, letter, q, _ in arcs}
    states = {(p, p, 0) for p in range(len(begins))}
    led = power(stands, n, states, measure[0])
    return tuple(sorted({m for p, q, m in led if begins[p] and ends[q]}))


def ring(size, first=0, letters="a"):
    """Return the arcs of a ring of STATES."""
    return [(first + p, letter, first + (p + 1) % size, 1) for p in range(size) for letter in letters]


def model_of(states, begin, ends, arcs, measure=PARITY):
    begins = tuple([int(p in begin) for p in range(states)])
    return (measure, begins, tuple([int(p in ends) for p in range(states)]), tuple(sorted(arcs)))


class LeastCourses(unittest.TestCase):
    def check(self, course):
        found = leaves_alone(self, least_course, course)
        expected = least_by_search(course)
        self.assertEqual(repr(found), repr(expected), course)
        again = least_course(found)
        self.assertEqual(repr(again), repr(found))
        return found

    def test_all_short_courses_of_two_truths(self):
        for a in range(5):
            for b in range(1, 6):
                for items in itertools.product((False, True), repeat=a + b):
                    self.check((items[:a], items[a:]))

    def test_courses_of_any_items(self):
        chance = random.Random(19)
        kinds = [
            (True, False), (0, 1), (0, 1, True, False), ((), (0,), (0, 1), (1, 2)), (None, 0, False, ()),
            ("a", "ab", ""), ((True,), (1,), [1], [True]), (5, 10 ** 50, -1), ({1: 0}, {True: 0}, {1: False}, {}),
            (((0, (1,)),), ((0, (True,)),)), ([[0]], [[False]], [(0,)]),
        ]
        for at in range(600):
            kind = kinds[at % len(kinds)]
            firsts = tuple([chance.choice(kind) for _ in range(chance.randint(0, 5))])
            turns = tuple([chance.choice(kind) for _ in range(chance.randint(1, 4))])
            least = self.check((firsts, turns))
            firsts, turns = least
            for _ in range(3):
                # Doubled, turned on, and made longer by what they tell.
                turns = turns * chance.randint(1, 3)
                for _ in range(chance.randint(0, 2 * len(turns))):
                    firsts, turns = firsts + turns[:1], turns[1:] + turns[:1]
                self.assertEqual(repr(leaves_alone(self, least_course, (firsts, turns))), repr(least))

    def test_truths_are_no_numbers(self):
        self.assertEqual(repr(least_course(((), (1, True)))), "((), (1, True))")
        self.assertEqual(repr(least_course(((True,), (1,)))), "((True,), (1,))")
        self.assertEqual(repr(least_course(((0, 1), (False, True, 0, 1)))), "((), (0, 1, False, True))")
        self.assertEqual(repr(least_course((((1,),), ((True,), (1,))))), "((), ((1,), (True,)))")

    def test_the_order_of_keys_does_not_matter(self):
        found = least_course(((), ({1: 0, 2: 0}, {2: 0, 1: 0})))
        self.assertEqual(found, ((), ({1: 0, 2: 0},)))

    def test_long_courses(self):
        turns = tuple([n % 7 for n in range(7 * 300)])
        self.assertEqual(least_course((turns[3:] + turns, turns)), ((), (3, 4, 5, 6, 0, 1, 2)))
        odd = tuple([0] * 999 + [1])
        self.assertEqual(least_course((odd, odd)), ((), odd))
        self.assertEqual(least_course(((1,) + odd[:-1], odd)), ((1,) + odd[:-1], odd))
        self.assertEqual(least_course(((2,) + odd[5:], odd)), ((2,), odd[5:] + odd[:5]))

    def test_items(self):
        course = (("x", 7), ((0,), True, 1))
        self.assertEqual([item_at(course, n) for n in range(8)], ["x", 7, (0,), True, 1, (0,), True, 1])
        for n in FAR:
            found = leaves_alone(self, item_at, course, n)
            self.assertEqual(repr(found), repr(((0,), True, 1)[(n - 2) % 3]))

    def test_lists_and_dicts_are_new(self):
        one = [1, {"a": [2]}]
        course = ((one,), ({"b": one}, (one,)))
        found = item_at(course, 0)
        found[1]["a"].append(3)
        item_at(course, 1)["b"].clear()
        item_at(course, 2)[0].clear()
        (first,), turns = least_course(course)
        first.clear()
        turns[0]["b"].clear()
        self.assertEqual([one, turns[1][0]], [[1, {"a": [2]}], [1, {"a": [2]}]])
        self.assertEqual(item_at(course, 0), one)

    def test_same_values(self):
        for one, other, expected in (
            (1, 1, True), (1, True, False), (False, 0, False), (True, True, True), ((), [], False), ([1], [True], False),
            ({1: (0,)}, {1: (0,)}, True), ({1: (0,)}, {1: (False,)}, False), ({1: 2}, {True: 2}, False), (None, 0, False),
            ([1, 2], [1], False), ("1", 1, False), (((1, (0,)),), ((1, (0,)),), True),
        ):
            self.assertIs(leaves_alone(self, is_same_value, one, other), expected)
            self.assertIs(is_same_value(other, one), expected)


def least_by_hand(firsts, turns):
    """Return the LEAST COURSE by taking one step after the other."""
    firsts, turns = list(firsts), list(turns)
    for size in range(1, len(turns) + 1):
        if len(turns) % size == 0 and turns[:size] * (len(turns) // size) == turns:
            turns = turns[:size]
            break
    while firsts and firsts[-1] == turns[-1]:
        firsts.pop()
        turns.insert(0, turns.pop())
    return (tuple(firsts), tuple(turns))


MODELS = (
    some_models(1, 60) + some_models(2, 25, CAP, 4) + some_models(3, 15, FIRSTS, 2) + some_models(4, 10, ONE, 2)
    + [model for at, measure in enumerate(some_measures(5, 30)) for model in some_models(at, 1, measure, 3)]
)


class LengthsAndLots(unittest.TestCase):
    def test_against_all_short_words(self):
        for model in MODELS:
            weights = weights_by_walks(model, "ab", 5)
            course = leaves_alone(self, lots_of, model)
            lengths = leaves_alone(self, lengths_of, model)
            for n in range(6):
                words = [word for word in words_of_length("ab", n) if weights[word] > 0]
                lot = tuple(sorted({measure_by_table(model[0], word) for word in words}))
                self.assertEqual(item_at(course, n), lot)
                self.assertEqual(leaves_alone(self, lot_of_length, model, n), lot)
                self.assertIs(item_at(lengths, n), bool(words))
                self.assertIs(leaves_alone(self, has_length, model, n), bool(words))

    def test_the_courses_are_least_and_go_on(self):
        for model in MODELS:
            course, lengths = lots_of(model), lengths_of(model)
            self.assertEqual(least_course(course), course)
            self.assertEqual(repr(least_course(lengths)), repr(lengths))
            for n in list(range(6, 30)) + list(FAR[:2]):
                lot = lot_by_doubling(model, n)
                self.assertEqual(item_at(course, n), lot)
                self.assertIs(item_at(lengths, n), lot != ())
                self.assertEqual(lot_of_length(model, n), lot)
                self.assertIs(has_length(model, n), lot != ())
            # Firsts and turns are as short as what is told, not as what it comes of.
            many = len(course[0]) + len(course[1]) + 60
            self.assertEqual(course, least_by_search((tuple(items_of(course, many)), course[1])))

    def test_without_words_and_without_arcs(self):
        arcs = ring(2)
        for model in (model_of(2, [], [0], arcs), model_of(2, [0], [], arcs), model_of(3, [0], [2], arcs)):
            self.assertEqual([lengths_of(model), lots_of(model)], [((), (False,)), ((), ((),))])
            for n in (0, 1, 2, 2 ** 200):
                self.assertIs(has_length(model, n), False)
                self.assertEqual(lot_of_length(model, n), ())
                self.assertIsNone(leaves_alone(self, length_from, model, n))
        empty = model_of(2, [0, 1], [1], [])
        self.assertEqual([lengths_of(empty), lots_of(empty)], [((True,), (False,)), (((0,),), ((),))])
        self.assertEqual([length_from(empty, 0), length_from(empty, 1), length_from(empty, 2 ** 200)], [0, None, None])

    def test_rings_of_one_to_six_states(self):
        for size in range(1, 7):
            for end in range(size):
                model = model_of(size, [0], [end], ring(size))
                turns = tuple([n == end for n in range(size)])
                self.assertEqual(lengths_of(model), ((), turns))
                self.assertEqual(lots_of(model), ((), tuple([(0,) if turn else () for turn in turns])))
                for n in FAR:
                    self.assertIs(has_length(model, n), n % size == end)
                    self.assertEqual(length_from(model, n), n + (end - n) % size)

    def test_a_path_into_a_ring(self):
        for size in range(1, 6):
            for ahead in range(1, 7 - size):
                arcs = [(p, "b", p + 1, 1) for p in range(ahead)] + ring(size, ahead, "b")
                model = model_of(6, [0], [ahead], arcs)
                lengths = leaves_alone(self, lengths_of, model)
                self.assertEqual(items_of(lengths, 40), [n >= ahead and (n - ahead) % size == 0 for n in range(40)])
                if size == 1:
                    self.assertEqual(lengths, ((False,) * ahead, (True,)))
                for n in FAR:
                    self.assertIs(has_length(model, n), (n - ahead) % size == 0)
                    expected = (n % 2,) if (n - ahead) % size == 0 else ()
                    self.assertEqual(lot_of_length(model, n), expected)
                    self.assertEqual(length_from(model, n), n + (ahead - n) % size)

    def test_two_rings(self):
        for one, other in ((1, 5), (2, 3), (2, 4), (3, 3), (1, 1), (2, 2)):
            arcs = ring(one) + ring(other, one, "b")
            model = model_of(one + other, [0, one], [one - 1, one + other - 1], arcs)
            expected = [n % one == one - 1 or n % other == other - 1 for n in range(60)]
            self.assertEqual(items_of(leaves_alone(self, lengths_of, model), 60), expected)
            self.assertEqual(lengths_of(model), least_by_hand((), expected))
            for n in FAR:
                self.assertIs(has_length(model, n), n % one == one - 1 or n % other == other - 1)
                lot = [0] * (n % one == one - 1) + [n % 2] * (n % other == other - 1)
                self.assertEqual(lot_of_length(model, n), tuple(sorted(set(lot))))

    def test_rings_with_members_that_turn_more_slowly(self):
        for size, step in ((1, 1), (2, 1), (3, 2), (5, 3), (6, 4)):
            measure = (EIGHT, (("a", step), ("b", 0)))
            model = model_of(size, [0], [0], ring(size), measure)
            course = lots_of(model)
            expected = [(n * step % 8,) if n % size == 0 else () for n in range(200)]
            self.assertEqual(course, least_by_hand((), expected[:size * 8]))
            self.assertEqual(items_of(course, 200), expected)
            for n in FAR:
                self.assertEqual(lot_of_length(model, n), (n * step % 8,) if n % size == 0 else ())

    def test_the_next_length(self):
        for model in MODELS:
            for n in list(range(12)) + [2 ** 200]:
                found = leaves_alone(self, length_from, model, n)
                near = [m for m in range(n, n + 80) if has_length(model, m)][:1]
                self.assertEqual([found] if found is not None else [], near)

    def test_the_same_again(self):
        model = MODELS[0]
        first = [lots_of(model), lengths_of(model)]
        for other in MODELS[1:20]:
            lots_of(other)
        self.assertEqual([lots_of(model), lengths_of(model)], first)


if __name__ == "__main__":
    unittest.main()
