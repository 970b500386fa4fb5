"""[6], [30]: PAPERS made, held against exact V for short rows and against one another for long ones."""

import random
import unittest

from tests.helpers import CAP, FIRSTS, ONE, PARITY, leaves_alone, named_measures, some_models
from tests.plain_rows import PlainRow, all_asks, plain_answer_by, plain_halves, plain_shares_in
from tests.test_choices import plain_beginning, plain_shown
from tests.test_rows import MODEL, cases, outcome
from unwrittenrow.makers import answered, paper_of
from unwrittenrow.rows import answer_of, opened
from unwrittenrow.tables import made_tables

FAR = 2 ** 200
ODDS = (PARITY, (1,), (1,), ((0, "a", 0, 1), (0, "b", 0, 2)))


def step_holds(model, n, facts, coins, tables, step, stand, most):
    """Whether a step is what the ENCLOSURES show with the least d, and the least index of these."""
    name, d, thing = step
    shares = plain_shares_in(model, facts, tables, name, stand)
    numbers = [number for _, number in shares]
    for least in range(most + 1):
        shown = plain_shown(numbers, plain_beginning(coins, name, least), least)
        if shown:
            return (least, shares[shown[0]][0]) == (d, thing)
    return False


def stands_of(n, facts, steps):
    """Return the STANDS of the NAMES of steps, n for ()."""
    stands = {(): n}
    for name, _, thing in steps:
        if name == ():
            stands[(0, n)] = thing
        elif name[1] - name[0] > 1:
            first, second = plain_halves(facts, name)
            p, q, _ = stands[name]
            stands[first], stands[second] = (p, thing[0], thing[1]), (thing[0], q, thing[2])
    return stands


class Papers(unittest.TestCase):
    def test_by_the_definition(self):
        met = {"returned": 0, "too close": 0}
        for model, n, facts, chance in cases(31, (1, 2, 4)):
            for bits, most in ((8, 40), (11, 3), (200, 40)):
                coins = (chance.randrange(10 ** 9), ())
                for ask in chance.sample(all_asks(model[0], n), 4 if n > 1 else 2):
                    found = outcome(paper_of, model, n, facts, coins, ask, bits, most)
                    met[found[0]] += 1
                    answer = outcome(answered, model, n, facts, coins, ask, bits, most)
                    if found[0] == "too close":
                        self.assertEqual(answer, found)
                        continue
                    tables, steps = found[1]
                    self.assertIs(type(found[1]), tuple)
                    self.assertIs(type(steps), tuple)
                    self.assertEqual(tables, made_tables(model, facts, [(0, n)], bits))
                    stands = stands_of(n, facts, steps)
                    for step in steps:
                        self.assertTrue(step_holds(model, n, facts, coins, tables, step, stands[step[0]], most))
                    things = tuple([(name, thing) for name, _, thing in steps])
                    self.assertEqual(plain_answer_by(model[0], n, facts, ask, things), (answer[1],))
        self.assertGreater(met["returned"], 300)
        self.assertGreater(met["too close"], 20)

    def test_against_exact_v(self):
        met = {True: 0, False: 0}
        for model, n, facts, chance in cases(32, (1, 3, 5)):
            coins = (chance.randrange(10 ** 9), ())
            for ask in chance.sample(all_asks(model[0], n), 5 if n > 1 else 3):
                steps = opened(model, n, facts, coins, ask, 300)
                answer = answer_of(model, n, facts, coins, ask, 300)
                for bits in (8, 12, 30, 100, 500):
                    found = outcome(paper_of, model, n, facts, coins, ask, bits, 300)
                    met[found[0] == "returned"] += 1
                    if found[0] == "returned":
                        its = found[1][1]
                        self.assertEqual([step[::2] for step in its], [step[::2] for step in steps])
                        self.assertTrue(all(step[1] >= exact[1] for step, exact in zip(its, steps)))
                        self.assertEqual(answered(model, n, facts, coins, ask, bits, 300), answer)
                        if bits == 500:
                            self.assertEqual(list(its), steps)
                    else:
                        self.assertLess(bits, 100)
        self.assertGreater(met[True], 500)

    def test_too_close_with_few_coins(self):
        for model, n, facts, chance in cases(33, (2, 4)):
            coins = (chance.randrange(10 ** 9), ())
            ask = ("letters", 0, n)
            steps = opened(model, n, facts, coins, ask, 300)
            for most in range(max(d for _, d, _ in steps) + 2):
                late = [name for name, d, _ in steps if d > most]
                for call in (paper_of, answered):
                    found = outcome(call, model, n, facts, coins, ask, 2000, most)
                    self.assertEqual(found[0] == "too close", bool(late))
                    if late:
                        self.assertEqual(found[1], late[0])

    def test_too_close_with_few_bits(self):
        # By eight bits nobody can tell on which side of a border the COINS lie; by more one can.
        model = (ONE, (1, 1), (1, 1), ((0, "a", 0, 999999), (0, "b", 0, 1000000), (1, "a", 1, 3)))
        told = tuple([((), k, True) for k in range(8)])
        met = {}
        for bits in (8, 10, 20, 60, 200):
            met[bits] = outcome(answered, model, 2 ** 60, (), (0, told), ("measure", 0, 2 ** 60), bits, 40)
        self.assertEqual(met[8], ("too close", ()))
        self.assertEqual(met[200][0], "returned")
        seen = [bits for bits in met if met[bits][0] == "returned"]
        self.assertEqual(seen, [bits for bits in met if bits >= seen[0]])

    def test_coins_along_a_border(self):
        for name, measure in (((), PARITY), ((2, 3), ONE)):
            thirds = (measure,) + ODDS[1:]
            n = 1 if name == () else 4
            coins = (1, tuple([(name, k, k % 2 == 1) for k in range(60)]))
            for ask in all_asks(measure, n):
                for bits in (8, 64):
                    expected = outcome(PlainRow(thirds, n, (), coins, 55).ask, ask)
                    self.assertEqual(outcome(answered, thirds, n, (), coins, ask, bits, 55), expected)

    def test_no_row_ahead_of_too_close(self):
        dead = (PARITY, (1,), (0,), ((0, "a", 0, 1),))
        for call in (paper_of, answered):
            for n in (1, 3, FAR):
                self.assertEqual(outcome(call, dead, n, (), (0, ()), ("letter", 0), 8, 0), ("no row",))
            self.assertEqual(outcome(call, MODEL, FAR, ((0, FAR, ()),), (0, ()), ("letter", 0), 8, 0), ("no row",))
            self.assertEqual(outcome(call, MODEL, FAR, (), (0, ()), ("letter", 0), 8, 0), ("too close", ()))
            even = (PARITY, (1, 0), (1, 0), ((0, "a", 1, 1), (1, "a", 0, 1)))
            self.assertEqual(outcome(call, even, FAR - 1, (), (0, ()), ("letter", 0), 700, 400), ("no row",))
            self.assertEqual(outcome(call, even, FAR, (), (0, ()), ("letter", 0), 700, 400)[0], "returned")

    def test_more_bits_tell_the_same_by_no_more_coins(self):
        chance = random.Random(34)
        models = [MODEL, ODDS] + some_models(35, 3, CAP, 3) + some_models(36, 2, FIRSTS, 3, 10 ** 6)
        met = 0
        for model in models:
            for n in (7, 2 ** 77 + 5, FAR):
                coins = (chance.randrange(10 ** 40), ())
                i = chance.randrange(n)
                j = chance.randint(i, n)
                members = tuple(range(len(model[0][0])))
                for ask in (("measure", i, j), ("letter", i), ("first", i, j, members[-1:]), ("letters", i, min(j, i + 3))):
                    steps = None
                    for bits in (8, 60, 300, 700):
                        found = outcome(paper_of, model, n, (), coins, ask, bits, 400)
                        if found[0] == "no row":
                            continue
                        if found[0] == "too close":
                            self.assertIsNone(steps)
                            continue
                        its = found[1][1]
                        if steps is not None:
                            self.assertEqual([step[::2] for step in its], [step[::2] for step in steps])
                            self.assertTrue(all(step[1] <= late[1] for step, late in zip(its, steps)))
                            met += 1
                        steps = its
        self.assertGreater(met, 100)

    def test_very_long_rows_agree_with_themselves(self):
        facts = ((3, 2 ** 150, (2,)), (2 ** 150, 2 ** 150 + 4, (0, 1)), (FAR - 9, FAR, (1,)))
        for coins in ((0, ()), (10 ** 40 - 1, (((), 0, True), ((0, FAR), 0, False)))):
            def ask(*question):
                return answered(MODEL, FAR, facts, coins, question, 300, 300)

            for i in (0, 2 ** 150 - 2, FAR - 5):
                letters = ask("letters", i, i + 5)
                self.assertEqual("".join(ask("letter", i + k) for k in range(5)), letters)
                self.assertEqual(ask("measure", i, i + 5), min(2, letters.count("b")))
                places = [i + k for k in range(5) if letters[k] == "b"]
                self.assertEqual(ask("first", i, i + 5, (1, 2)), places[0] if places else None)
                self.assertEqual(ask("first", i, i + 5, (2,)), places[1] if len(places) > 1 else None)
                self.assertEqual(ask("last", i, i + 5, (1, 2)), places[-1] if places else None)
            self.assertEqual(ask("measure", 3, 2 ** 150), 2)
            self.assertIn(ask("measure", 2 ** 150, 2 ** 150 + 4), (0, 1))
            x = ask("first", 3, FAR, (2,))
            self.assertEqual((ask("measure", 3, x + 1), ask("measure", 3, x), ask("letter", x)), (2, 1, "b"))
            x = ask("last", 0, FAR, (1, 2))
            self.assertEqual((ask("measure", x, FAR), ask("measure", x + 1, FAR), ask("letter", x)), (1, 0, "b"))

    def test_many_names_and_few(self):
        tables, steps = paper_of(MODEL, FAR, (), (5, ()), ("measure", 12345, FAR - 98765), 300, 300)
        self.assertEqual(len(tables), 201)
        self.assertLess(len(steps), 4 * 200)
        self.assertEqual(len(paper_of(MODEL, FAR, (), (5, ()), ("measure", 7, 7), 300, 300)[1]), 1)
        self.assertLess(len(paper_of(MODEL, FAR, (), (5, ()), ("first", 0, FAR, (2,)), 300, 300)[1]), 4 * 200)

    def test_arguments_stay_and_what_is_told_is_new(self):
        for measure in named_measures()[:5]:
            model = (measure, (1,), (1,), tuple([(0, letter, 0, 2) for letter, _ in measure[1]]))
            ask = ("letters", 1, 3)
            first = leaves_alone(self, paper_of, model, 5, ((1, 2, (measure[1][0][1],)),), (7, ()), ask, 30, 60)
            leaves_alone(self, answered, model, 5, (), (7, ()), ask, 30, 60)
            again = paper_of(model, 5, ((1, 2, (measure[1][0][1],)),), (7, ()), ask, 30, 60)
            self.assertEqual(first, again)
            for table in first[0].values():
                table.clear()
            self.assertEqual(paper_of(model, 5, ((1, 2, (measure[1][0][1],)),), (7, ()), ask, 30, 60), again)


if __name__ == "__main__":
    unittest.main()
