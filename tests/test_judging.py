"""[6], [31]: the judge, held against the words of the document, step by step."""

import random
import unittest

from tests.helpers import CAP, ONE, PARITY, any_values, changed, leaves_alone, lists_for_tuples, truths_for_numbers
from tests.plain_rows import PlainRow, all_asks, plain_halves, plain_shares_in
from tests.test_choices import plain_beginning, plain_shown
from tests.test_papers import turned
from tests.test_rows import MODEL, cases
from tests.test_tables import block_of, plain_parts
from unwrittenrow.judging import first_amiss, is_paper
from unwrittenrow.makers import paper_of
from unwrittenrow.rows import answer_of, opened
from unwrittenrow.tables import are_tables, made_tables

FAR = 2 ** 200


class Amiss(Exception):
    pass


class PlainJudge(PlainRow):
    """What an ASK OPENS by STEPS, each of them looked at."""

    def __init__(self, model, n, facts, coins, thing):
        super().__init__(model, n, facts, coins, None)
        self.tables, self.given = thing
        self.at = 0

    def has_key(self, block):
        inner = [fact for fact in self.facts if block[0] <= fact[0] and fact[1] <= block[1]]
        return (block if inner else block[1] - block[0]) in self.tables

    def make(self, name, stand=None):
        if self.at == len(self.given) or not self.is_right(self.given[self.at], name, stand):
            raise Amiss()
        self.at += 1
        return self.given[self.at - 1][2]

    def is_right(self, step, name, stand):
        if type(step) is not tuple or len(step) != 3 or repr(step[0]) != repr(name):
            return False
        if type(step[1]) is not int or step[1] not in range(4001):
            return False
        blocks = [(0, self.n)] if name == () else plain_halves(self.facts, name) if name[1] - name[0] > 1 else []
        if not all(self.has_key(block) for block in blocks):
            return False
        shares = plain_shares_in(self.model, self.facts, self.tables, name, self.n if name == () else stand)
        numbers = [number for _, number in shares]
        shown = plain_shown(numbers, plain_beginning(self.coins, name, step[1]), step[1])
        return any(repr(shares[index][0]) == repr(step[2]) for index in shown)


def plain_first_amiss(model, n, facts, coins, ask, thing):
    """Return the index that first_amiss tells, and the answer if it is `None`."""
    judge = PlainJudge(model, n, facts, coins, thing)
    try:
        answer = judge.ask(ask)
    except Amiss:
        return judge.at, None
    return (None, answer) if judge.at == len(judge.given) else (judge.at, None)


def plain_is_paper(model, n, facts, coins, ask, answer, thing):
    if type(thing) is not tuple or len(thing) != 2 or type(thing[1]) is not tuple:
        return False
    if not are_tables(model, facts, thing[0]):
        return False
    amiss, right = plain_first_amiss(model, n, facts, coins, ask, thing)
    return amiss is None and repr(right) == repr(answer)


def wider(chance, model, facts, tables):
    """Return TABLES made wider, from one place up, by chance."""
    wide = {}
    for key in sorted(tables, key=lambda key: block_of(key)[1] - block_of(key)[0]):
        wide[key] = {}
        for stand, parts in plain_parts(model, facts, key, wide).items():
            low, high = sum(part[0] for part in parts), sum(part[1] for part in parts)
            e = chance.choice((0, 0, 2))
            low = low - chance.choice((0, low // 1000)) >> e
            wide[key][stand] = (low, -(-high // 2 ** e) + chance.choice((0, 0, high // 2000)), e)
    return turned(chance, wide)


class Judge(unittest.TestCase):
    def judged(self, model, n, facts, coins, ask, answer, thing):
        found = leaves_alone(self, is_paper, model, n, facts, coins, ask, answer, thing)
        self.assertIs(found, plain_is_paper(model, n, facts, coins, ask, answer, thing), (model, facts, ask, answer, thing))
        return found

    def papers(self, seed, sizes=(1, 2, 4), many=3):
        for model, n, facts, chance in cases(seed, sizes):
            coins = (chance.randrange(10 ** 9), ())
            for ask in chance.sample(all_asks(model[0], n), many if n > 1 else 2):
                answer = answer_of(model, n, facts, coins, ask, 300)
                yield model, n, facts, coins, ask, answer, paper_of(model, n, facts, coins, ask, 2000, 300), chance

    def test_papers_that_are_made(self):
        for model, n, facts, coins, ask, answer, paper, chance in self.papers(41, (1, 2, 4, 6)):
            self.assertIs(self.judged(model, n, facts, coins, ask, answer, paper), True)
            self.assertIsNone(leaves_alone(self, first_amiss, model, n, facts, coins, ask, paper))
            for other in (None, 0, 1, True, False, "", "a", "ab", n, (answer,), [answer], "none"):
                self.judged(model, n, facts, coins, ask, other, paper)
            more = dict(paper[0])
            more.update(made_tables(model, facts, [(0, n)], 40))
            more.update({key: table for key, table in made_tables(model, (), [(0, 11)], 2000).items() if key not in more})
            self.judged(model, n, facts, coins, ask, answer, (turned(chance, more), paper[1]))

    def test_with_wide_tables_and_greater_d(self):
        met = {True: 0, False: 0}
        for model, n, facts, coins, ask, answer, (tables, steps), chance in self.papers(42):
            wide = wider(chance, model, facts, tables)
            self.assertIs(are_tables(model, facts, wide), True)
            later = tuple([(name, d + chance.choice((0, 1, 7, 30)), thing) for name, d, thing in steps])
            self.assertIs(self.judged(model, n, facts, coins, ask, answer, (tables, later)), True)
            for its in (steps, later, tuple([(name, d + 20, thing) for name, d, thing in steps])):
                met[self.judged(model, n, facts, coins, ask, answer, (wide, its))] += 1
                self.assertEqual(
                    first_amiss(model, n, facts, coins, ask, (wide, its)),
                    plain_first_amiss(model, n, facts, coins, ask, (wide, its))[0],
                )
        self.assertGreater(min(met.values()), 10)

    def test_d_of_four_thousand_at_most(self):
        for d, is_right in ((4000, True), (4001, False), (10 ** 199, False)):
            paper = paper_of(MODEL, 3, (), (2, ()), ("measure", 0, 3), 60, 60)
            steps = (((), d, paper[1][0][2]),)
            self.assertIs(is_paper(MODEL, 3, (), (2, ()), ("measure", 0, 3), paper[1][0][2][2], (paper[0], steps)), is_right)
            self.assertEqual(
                first_amiss(MODEL, 3, (), (2, ()), ("measure", 0, 3), (paper[0], steps)), None if is_right else 0
            )

    def test_steps_with_one_thing_otherwise(self):
        met = {True: 0, False: 0}
        places = set()
        for model, n, facts, coins, ask, answer, (tables, steps), chance in self.papers(43, (1, 3), 2):
            others = [steps[:at] + steps[at + 1:] for at in range(len(steps))]
            others.extend([steps[:at] + (step,) + steps[at:] for at, step in enumerate(steps)])
            others.extend([steps[:at] + (steps[at + 1], steps[at]) + steps[at + 2:] for at in range(len(steps) - 1)])
            others.append(steps + (((n, n + 1), 0, "a"),))
            for at, (name, d, thing) in enumerate(steps):
                for other in [(name, d - 1, thing), (name, d + 1, thing), ((n, n + 1), d, thing), (name, thing, d)]:
                    others.append(steps[:at] + (other,) + steps[at + 1:])
                exact = PlainRow(model, n, facts, coins, 300)
                for other, _ in exact.things(name, self.stand_at(n, facts, steps, at)):
                    others.append(steps[:at] + ((name, d, other),) + steps[at + 1:])
            for other in others:
                met[self.judged(model, n, facts, coins, ask, answer, (tables, other))] += 1
                found = first_amiss(model, n, facts, coins, ask, (tables, other))
                self.assertEqual(found, plain_first_amiss(model, n, facts, coins, ask, (tables, other))[0])
                places.add((found, len(other)))
        self.assertGreater(min(met.values()), 50)
        self.assertGreater(len(places), 15)

    def stand_at(self, n, facts, steps, at):
        stands = {(): None}
        for name, _, thing in steps[:at]:
            if name == ():
                stands[(0, n)] = thing
            elif name[1] - name[0] > 1:
                first, second = plain_halves(facts, name)
                stands[first] = (stands[name][0], thing[0], thing[1])
                stands[second] = (thing[0], stands[name][1], thing[2])
        return stands[steps[at][0]]

    def test_steps_of_other_forms(self):
        for model, n, facts, coins, ask, answer, (tables, steps), chance in list(self.papers(44, (1, 3), 2))[::5]:
            for other in changed(steps) + truths_for_numbers(steps) + lists_for_tuples(steps):
                if not self.judged(model, n, facts, coins, ask, answer, (tables, other)):
                    continue
                self.assertEqual([step[::2] for step in other], [step[::2] for step in steps])
            for other in changed((1, 2)) + truths_for_numbers(steps):
                self.judged(model, n, facts, coins, ask, answer, (tables, other))

    def test_tables_with_one_thing_otherwise(self):
        met = {True: 0, False: 0}
        for model, n, facts, coins, ask, answer, (tables, steps), chance in list(self.papers(45, (1, 2, 3), 2))[::4]:
            for key in tables:
                less = {other: tables[other] for other in tables if other != key}
                met[self.judged(model, n, facts, coins, ask, answer, (less, steps))] += 1
                self.judged(model, n, facts, coins, ask, answer, ({**tables, key: {}}, steps))
                self.judged(model, n, facts, coins, ask, answer, ({**tables, key: list(tables[key])}, steps))
                for stand, (low, high, e) in tables[key].items():
                    for number in ((low + 1, high, e), (low, high - 1, e), (low, high + 1, e), (low - 1, high, e),
                                   [low, high, e], (low, high), (low, high, True), (True, high, e), None):
                        other = {**tables, key: {**tables[key], stand: number}}
                        met[self.judged(model, n, facts, coins, ask, answer, (other, steps))] += 1
                    rest = {one: tables[key][one] for one in tables[key] if one != stand}
                    self.judged(model, n, facts, coins, ask, answer, ({**tables, key: rest}, steps))
                more = {**tables[key], (0, 0, 0): (0, 0, 0)}
                self.judged(model, n, facts, coins, ask, answer, ({**tables, key: more}, steps))
            for key in (0, -1, True, (0, 0), (0, n + 1), "a", None, (), n + 1):
                self.judged(model, n, facts, coins, ask, answer, ({**tables, key: {}}, steps))
        self.assertGreater(min(met.values()), 50)

    def test_keys_that_are_needed(self):
        # Of the row of one place none but its own; of (0, 4) those of its HALVES, but not of theirs.
        coins, ask = (3, ()), ("measure", 0, 2)
        tables, steps = paper_of(MODEL, 4, (), coins, ask, 60, 60)
        answer = answer_of(MODEL, 4, (), coins, ask, 60)
        self.assertEqual([name for name, _, _ in steps], [(), (0, 4)])
        # A KEY whose HALVES lack is none of TABLES that are let by, so the greater ones are taken away.
        for keys, amiss in (((1, 2, 4), None), ((1, 2), 0), ((), 0), ((1,), 0)):
            some = {key: tables[key] for key in keys}
            self.assertEqual(first_amiss(MODEL, 4, (), coins, ask, (some, steps)), amiss)
            self.assertIs(is_paper(MODEL, 4, (), coins, ask, answer, (some, steps)), amiss is None)
        self.assertEqual(first_amiss(MODEL, 4, (), coins, ask, ({}, ())), 0)
        one = paper_of(MODEL, 1, (), coins, ("letter", 0), 60, 60)
        self.assertEqual(list(one[0]), [1])
        self.assertIs(is_paper(MODEL, 1, (), coins, ("letter", 0), answer_of(MODEL, 1, (), coins, ("letter", 0), 60), one), True)

    def test_other_coins_facts_asks_and_lengths(self):
        met = {True: 0, False: 0}
        for model, n, facts, coins, ask, answer, paper, chance in self.papers(46, (2, 4), 2):
            for other in ((coins[0] + 1, ()), (chance.randrange(10 ** 6), ()), (coins[0], (((), 0, True),)),
                          (coins[0], (((), 0, False),))):
                met[self.judged(model, n, facts, other, ask, answer, paper)] += 1
            for other in chance.sample(all_asks(model[0], n), 5):
                for its in (answer, answer_of(model, n, facts, coins, other, 300)):
                    met[self.judged(model, n, facts, coins, other, its, paper)] += 1
            self.judged(model, n, (), coins, ask, answer, paper)
            self.judged(model, n, ((0, n, ()),), coins, ask, answer, paper)
            self.judged(model, n + 1, facts, coins, ask, answer, paper)
        self.assertGreater(min(met.values()), 50)

    def test_any_values(self):
        coins, ask = (3, ()), ("letter", 1)
        tables, steps = paper_of(MODEL, 3, (), coins, ask, 60, 60)
        answer = answer_of(MODEL, 3, (), coins, ask, 60)
        self.assertIs(is_paper(MODEL, 3, (), coins, ask, answer, (tables, steps)), True)
        for value in any_values():
            things = [
                value, (value,), (value, value), (tables, value), (value, steps), (tables, (value,)), [tables, steps],
                (tables, steps, value), (tables, steps[:1] + (value,)), (tables, steps + (value,)), (tables, list(steps)),
            ]
            for at in range(3):
                step = steps[0][:at] + (value,) + steps[0][at + 1:]
                things.extend([(tables, (step,) + steps[1:]), (tables, steps[1:] + (step,))])
            for thing in things:
                found = is_paper(MODEL, 3, (), coins, ask, answer, thing)
                self.assertIs(found, plain_is_paper(MODEL, 3, (), coins, ask, answer, thing))
            self.assertIs(is_paper(MODEL, 3, (), coins, ask, value, (tables, steps)), repr(value) == repr(answer))
            if not isinstance(value, (list, dict)):
                for other in ((value,) + steps[0][1:], steps[0][:1] + (value,) + steps[0][2:], steps[0][:2] + (value,)):
                    thing = (tables, (other,) + steps[1:])
                    expected = plain_first_amiss(MODEL, 3, (), coins, ask, thing)[0]
                    self.assertEqual(first_amiss(MODEL, 3, (), coins, ask, thing), expected)
        for value in any_values():
            try:
                hash(value)
            except TypeError:
                continue
            for other in ({**tables, value: {}}, {**tables, 1: {value: (0, 0, 0)}}, {value: tables[1]}):
                if type(value) is int and value in (1, 2):
                    continue
                self.assertIs(is_paper(MODEL, 3, (), coins, ask, answer, (other, steps)), False)
            self.assertIs(is_paper(MODEL, 3, (), coins, ask, answer, ({**tables, 1: {**tables[1], (0, 0, 0): value}}, steps)), False)

    def test_an_e_of_two_hundred_digits(self):
        # Of a STAND that no other KEY hangs on: it is let by, and shows nothing any more.
        coins, ask = (3, ()), ("measure", 0, 3)
        tables, steps = paper_of(MODEL, 3, (), coins, ask, 60, 60)
        answer, huge = answer_of(MODEL, 3, (), coins, ask, 60), 10 ** 199
        for stand in tables[3]:
            wide = {**tables, 3: {**tables[3], stand: (0, 1, huge)}}
            self.assertIs(are_tables(MODEL, (), wide), True)
            self.assertEqual(is_paper(MODEL, 3, (), coins, ask, answer, (wide, steps)), False or stand[0] == 1)
            wide = {**tables, 3: {**tables[3], stand: (1, 1, huge)}}
            self.assertIs(is_paper(MODEL, 3, (), coins, ask, answer, (wide, steps)), False)
        alone = (ONE, (1,), (1,), ((0, "a", 0, 1), (0, "b", 0, 1)))
        for table in ({(0, 0, 0): (0, 1, huge)}, {(0, 0, 0): (1, huge, 0)}):
            tables = {1: {(0, 0, 0): (1, 2, 0)}, 2: table}
            self.assertIs(is_paper(alone, 2, (), (0, ()), ("measure", 0, 2), 0, (tables, (((), 0, (0, 0, 0)),))), True)

    def test_a_wide_paper_that_is_taken_is_right(self):
        """Whoever made the TABLES: the answers that are taken are those of exact V."""
        chance = random.Random(47)
        taken = 0
        for model, n, facts, coins, ask, answer, (tables, steps), _ in self.papers(48, (2, 4), 3):
            wide = wider(chance, model, facts, tables)
            for _ in range(4):
                others = tuple([
                    (name, chance.randrange(12), chance.choice(
                        PlainRow(model, n, facts, coins, 9).things(name, self.stand_at(n, facts, steps, at))
                    )[0]) for at, (name, _, _) in enumerate(steps)
                ])
                for its in (answer, 0, 1, None, "a"):
                    if is_paper(model, n, facts, coins, ask, its, (wide, others)):
                        taken += 1
                        self.assertEqual(its, answer)
                        right = [step[::2] for step in opened(model, n, facts, coins, ask, 300)]
                        self.assertEqual([step[::2] for step in others], right)
        self.assertGreater(taken, 10)

    def test_rows_of_very_many_places(self):
        facts = ((3, 2 ** 150, (2,)), (FAR - 9, FAR, (1,)))
        for model, its in ((MODEL, facts), ((PARITY, (1,), (1,), ((0, "a", 0, 1), (0, "b", 0, 2))), ())):
            for ask in (("measure", 77, FAR - 4), ("letters", 2 ** 199, 2 ** 199 + 6), ("first", 9, FAR, (0, 1, 2)[:len(model[0][0])]),
                        ("letter", FAR - 1)):
                for bits in (300,):
                    coins = (17, ())
                    tables, steps = paper_of(model, FAR, its, coins, ask, bits, 400)
                    things = [step[2] for step in steps]
                    answers = [x for x in (0, 1, 2, None, "a", "b", 9, True) if is_paper(
                        model, FAR, its, coins, ask, x, (tables, steps))] if ask[0] != "letters" else [""]
                    self.assertEqual(len(answers), 1)
                    self.assertIsNone(first_amiss(model, FAR, its, coins, ask, (tables, steps)))
                    at = len(steps) // 2
                    other = steps[:at] + (steps[at][:2] + (things[at - 1],),) + steps[at + 1:]
                    if things[at] != things[at - 1]:
                        self.assertEqual(first_amiss(model, FAR, its, coins, ask, (tables, other)), at)
                    self.assertEqual(first_amiss(model, FAR, its, coins, ask, (tables, steps[:-1])), len(steps) - 1)
                    self.assertEqual(first_amiss(model, FAR, its, coins, ask, (tables, steps + steps[:1])), len(steps))
                    key = max(key for key in tables if type(key) is int)
                    stand = list(tables[key])[0]
                    low, high, e = tables[key][stand]
                    for number in ((low + 1, high, e), (low, high - 1, e), (low, high, e - 1), (low, high, e + 1)):
                        wrong = {**tables, key: {**tables[key], stand: number}}
                        self.assertIs(is_paper(model, FAR, its, coins, ask, answers[0], (wrong, steps)), False)


if __name__ == "__main__":
    unittest.main()
