"""[10], [34], [35]: houses, held against a plain keeping of what stands, and against the ROW beneath."""

import copy
import random
import unittest

from tests.helpers import (
    CAP, FIRSTS, LASTS, ONE, PARITY, any_values, changed, cross, leaves_alone, lists_for_tuples, meets, some_models,
    truths_for_numbers, weight_by_walks, words_of_length,
)
from tests.plain_rows import all_asks, plain_meaning
from tests.test_rows import MODEL, outcome
from unwrittenrow.errors import Crossing, NoRow, Nothing, NotThere, RowError, TooClose, TooMany, Wrong
from unwrittenrow.forms import are_coins, are_facts, is_block, is_model
from unwrittenrow.house import House, are_papers, papers_of, parts_of
from unwrittenrow.judging import is_paper
from unwrittenrow.makers import answered, paper_of

FAR = 2 ** 200
DEAD = (PARITY, (1,), (0,), ((0, "a", 0, 1),))
EVEN = (PARITY, (1, 0), (1, 0), ((0, "a", 1, 1), (0, "b", 1, 2), (1, "a", 0, 1)))
COUNT8 = (tuple([tuple([min(7, x + y) for y in range(8)]) for x in range(8)]), (("a", 0), ("b", 1)))


def raised(call, *arguments):
    """Return the class and the fields of the error that a call raises, `None` if it raises none."""
    try:
        call(*arguments)
    except RowError as error:
        return (type(error).__name__, vars(error))
    return None


def state_of(house):
    return (house.model(), house.length(), house.coins(), house.room(), house.facts(), house.written(), house.remembered())


class PlainHouse:
    """What stands in a house of few places, and the error that a call has to raise; all WORDS are gone through."""

    def __init__(self, model, n):
        self.model, self.n = model, n
        self.facts, self.written = {}, {}
        self.before = []

    def is_possible(self, facts):
        told = tuple([block + (lot,) for block, lot in facts.items()])
        return any(
            weight_by_walks(self.model, word) and meets(self.model[0], word, told)
            for word in words_of_length([letter for letter, _ in self.model[0][1]], self.n)
        )

    def keep(self):
        self.before.append((dict(self.facts), dict(self.written)))

    def put_fact(self, fact):
        if not are_facts(self.model[0], self.n, (fact,)):
            return ("Wrong", {"place": 0})
        block = fact[:2]
        if block in self.facts or any(cross(block, other) for other in self.facts):
            return ("Crossing", {"fact": fact})
        if len(self.facts) == 8:
            return ("TooMany", {"most": 8})
        if not self.is_possible({**self.facts, block: fact[2]}):
            return ("NoRow", {})
        self.keep()
        self.facts[block] = fact[2]
        return None

    def take_fact(self, block):
        if not is_block(block):
            return ("Wrong", {"place": 0})
        if block not in self.facts:
            return ("NotThere", {"thing": block})
        self.keep()
        del self.facts[block]
        return None

    def is_place(self, x):
        return type(x) is int and 0 <= x < self.n

    def write(self, x, letter):
        if not self.is_place(x):
            return ("Wrong", {"place": 0})
        if type(letter) is not str or letter not in [its for its, _ in self.model[0][1]]:
            return ("Wrong", {"place": 1})
        self.keep()
        self.written[x] = letter
        return None

    def erase(self, x):
        if not self.is_place(x):
            return ("Wrong", {"place": 0})
        if x not in self.written:
            return ("NotThere", {"thing": x})
        self.keep()
        del self.written[x]
        return None

    def undo(self):
        if not self.before:
            return ("Nothing", {})
        self.facts, self.written = self.before.pop()
        return None

    def told_facts(self):
        return tuple(sorted([block + (lot,) for block, lot in self.facts.items()]))

    def answer(self, coins, question):
        """Return the outcome of a question: parts come in the order of [35], each asked of the ROW beneath."""
        try:
            parts, answer = plain_parts(self.model, self.n, self.told_facts(), coins, self.written, question)
        except TooClose as error:
            return ("too close", error.name)
        return ("returned", answer, tuple(parts))


def plain_parts(model, n, facts, coins, written, question):
    """Return the list of the parts of a question, and the answer, by the words of [35]; places are few."""
    table, values = model[0]
    members = dict(values)

    def beneath(*part):
        parts.append(part)
        return answered(model, n, facts, coins, part, 700, 400)

    parts = []
    if question[0] == "letter":
        return parts, written[question[1]] if question[1] in written else beneath("letter", question[1])
    kind, i, j = question[:3]
    pieces, start = [], i
    for x in range(i, j + 1):
        if x == j or x in written:
            if start < x:
                pieces.append((start, x))
            if x < j:
                pieces.append((x, None))
            start = x + 1
    if kind == "letters":
        return parts, "".join([written[a] if b is None else beneath("letters", a, b) for a, b in pieces])
    if kind == "measure":
        m = 0
        for a, b in pieces:
            m = table[m][members[written[a]] if b is None else beneath("measure", a, b)]
        return parts, m
    lot = question[3]
    if 0 in lot:
        return parts, None if i == j else i if kind == "first" else j - 1
    is_first, m = kind == "first", 0
    pieces = pieces if is_first else pieces[::-1]
    for at, (a, b) in enumerate(pieces):
        if b is None:
            m = table[m][members[written[a]]] if is_first else table[members[written[a]]][m]
            if m in lot:
                return parts, a
            continue
        its = tuple([y for y in range(len(table)) if (table[m][y] if is_first else table[y][m]) in lot])
        found = beneath(kind, a, b, its)
        if found is not None:
            return parts, found
        if at + 1 < len(pieces):
            y = beneath("measure", a, b)
            m = table[m][y] if is_first else table[y][m]
    return parts, None


class Making(unittest.TestCase):
    def test_what_it_keeps(self):
        for model in (MODEL, EVEN, (ONE, (1,), (1,), ((0, "a", 0, 5),))):
            for n in (2, 60, FAR):
                for coins in ((0, ()), (10 ** 39, (((), 3, True), ((5, 9), 0, False)))):
                    for room in (0, 1, 7, 10 ** 199):
                        house = leaves_alone(self, House, model, n, coins, room)
                        self.assertEqual(state_of(house), (model, n, coins, room, (), {}, 0))
                        self.assertEqual(raised(house.undo), ("Nothing", {}))

    def test_no_row(self):
        for model, n in ((DEAD, 1), (DEAD, FAR), (EVEN, 1), (EVEN, FAR - 1)):
            self.assertEqual(raised(House, model, n, (0, ()), 0), ("NoRow", {}))
        self.assertIsNone(raised(House, EVEN, FAR, (0, ()), 0))

    def test_wrong_arguments(self):
        right = (MODEL, 5, (3, ()), 2)
        tests = (
            lambda thing: is_model(thing), lambda thing: type(thing) is int and 1 <= thing <= FAR,
            lambda thing: are_coins(thing), lambda thing: type(thing) is int and thing >= 0,
        )
        things = any_values() + list(right) + [0, 1, FAR, FAR + 1, True, DEAD, [3, ()], (3, []), (3,), (True, ()), "5"]
        for at, fits in enumerate(tests):
            for thing in things + changed(right[at]) + truths_for_numbers(right[at]) + lists_for_tuples(right[at]):
                its = right[:at] + (thing,) + right[at + 1:]
                found = raised(House, *its)
                if not fits(thing):
                    self.assertEqual(found, ("Wrong", {"place": at}), thing)
                else:
                    self.assertIn(found, (None, ("NoRow", {})))
        chance = random.Random(1)
        for _ in range(300):
            its = [chance.choice(things + [one] * 30) for one in right]
            bad = [at for at, (fits, thing) in enumerate(zip(tests, its)) if not fits(thing)]
            found = raised(House, *its)
            if bad:
                self.assertEqual(found, ("Wrong", {"place": bad[0]}))
        self.assertEqual(raised(House, DEAD, 5, (3, ()), True), ("Wrong", {"place": 3}))

    def test_what_is_given_may_be_changed_later(self):
        house = House(MODEL, 9, (3, ()), 5)
        house.write(4, "b")
        house.put_fact((0, 4, (1, 2)))
        before = state_of(house)
        written = house.written()
        written[3] = "a"
        written.pop(4)
        self.assertEqual(state_of(house), before)
        self.assertEqual(list(house.written()), [4])
        for x in (7, 0, 5):
            house.write(x, "a")
        self.assertEqual(list(house.written()), [0, 4, 5, 7])


class Calls(unittest.TestCase):
    def some_call(self, chance, plain):
        """Return the name of a call and its arguments, many of them bad."""
        n, measure = plain.n, plain.model[0]
        x = chance.choice((chance.randrange(n), chance.randrange(n), -1, n, True, None, "0", n - 1))
        i = chance.randrange(n)
        j = chance.choice((chance.randint(i + 1, n), min(n, i + 1), n + 1, i))
        lot = tuple([y for y in range(len(measure[0])) if chance.random() < 0.7])
        if chance.random() < 0.1:
            lot = chance.choice((lot[::-1], list(lot), (True,), (8,), None))
        block = chance.choice(list(plain.facts) + [(i, j)])
        name = chance.choice(("put_fact", "put_fact", "take_fact", "write", "erase", "undo"))
        if name == "put_fact":
            return name, (chance.choice(((i, j, lot), (i, j, lot), block + (lot,), [i, j, lot], (i, j))),)
        if name == "take_fact":
            return name, (chance.choice((block, block, (i, j), list(block), (i, FAR), i)),)
        if name == "write":
            return name, (x, chance.choice(("a", "b", "a", "b", "c", "ab", "", None, 0)))
        return name, (x,) if name == "erase" else ()

    def test_led_through_calls_of_all_kinds(self):
        met = {}
        for seed, model in enumerate([MODEL, EVEN] + some_models(91, 4, CAP, 3) + some_models(92, 3, FIRSTS, 2)):
            for n in (2, 4):
                if raised(House, model, n, (seed, ()), 3) is not None:
                    continue
                chance = random.Random(seed)
                house, plain = House(model, n, (seed, ()), chance.choice((0, 2, 50))), PlainHouse(model, n)
                twins = []
                for _ in range(120):
                    name, arguments = self.some_call(chance, plain)
                    before = state_of(house)
                    expected = getattr(plain, name)(*arguments)
                    found = raised(getattr(house, name), *arguments)
                    self.assertEqual(found, expected, (name, arguments))
                    if expected is not None:
                        self.assertEqual(state_of(house), before)
                    self.assertEqual((house.facts(), house.written()), (plain.told_facts(), plain.written))
                    met[expected and expected[0]] = met.get(expected and expected[0], 0) + 1
                    if chance.random() < 0.05:
                        twins.append((house.twin(), copy.deepcopy(plain)))
                        house, plain = twins[0] if chance.random() < 0.5 else twins.pop(0)
                    if chance.random() < 0.1:
                        question = chance.choice(all_asks(model[0], n))
                        self.assertEqual(outcome(house.ask, question), plain.answer((seed, ()), question)[:2])
                    self.assertLessEqual(house.remembered(), house.room())
                # All that was done can be taken back, one by one.
                while plain.before:
                    self.assertIsNone(house.undo())
                    plain.undo()
                    self.assertEqual((house.facts(), house.written()), (plain.told_facts(), plain.written))
                self.assertEqual(raised(house.undo), ("Nothing", {}))
                self.assertEqual((house.facts(), house.written()), ((), {}))
        self.assertEqual(set(met), {None, "Wrong", "Crossing", "NoRow", "NotThere", "Nothing"})
        self.assertGreater(min(met.values()), 5)

    def test_calls_return_nothing(self):
        house = House(MODEL, 9, (0, ()), 4)
        self.assertIsNone(house.put_fact((0, 4, (1,))))
        self.assertIsNone(house.write(3, "b"))
        self.assertIsNone(house.erase(3))
        self.assertIsNone(house.take_fact((0, 4)))
        self.assertIsNone(house.undo())

    def test_too_many_facts(self):
        house = House((COUNT8, (1,), (1,), ((0, "a", 0, 1), (0, "b", 0, 1))), FAR, (0, ()), 0)
        for k in range(8):
            house.put_fact((3 * k, 3 * k + 2, (0, 1)))
        before = state_of(house)
        fact = (40, 42, (0, 1))
        self.assertEqual(raised(house.put_fact, fact), ("TooMany", {"most": 8}))
        # A crossing comes first, then the number, then what nobody can meet.
        self.assertEqual(raised(house.put_fact, (1, 4, (0,))), ("Crossing", {"fact": (1, 4, (0,))}))
        self.assertEqual(raised(house.put_fact, (0, 2, (0, 1))), ("Crossing", {"fact": (0, 2, (0, 1))}))
        self.assertEqual(raised(house.put_fact, (40, 42, ())), ("TooMany", {"most": 8}))
        self.assertEqual(raised(house.put_fact, (40, 42, (8,))), ("Wrong", {"place": 0}))
        self.assertEqual(state_of(house), before)
        house.take_fact((9, 11))
        self.assertEqual(raised(house.put_fact, (40, 42, ())), ("NoRow", {}))
        house.put_fact(fact)
        self.assertEqual(len(house.facts()), 8)

    def test_errors_keep_the_objects(self):
        house = House(MODEL, 9, (0, ()), 4)
        fact, block = (0, 4, (1,)), (1, 5)
        house.put_fact((2, 6, (0, 1)))
        with self.assertRaises(Crossing) as caught:
            house.put_fact(fact)
        self.assertIs(caught.exception.fact, fact)
        with self.assertRaises(NotThere) as caught:
            house.take_fact(block)
        self.assertIs(caught.exception.thing, block)
        with self.assertRaises(NotThere) as caught:
            house.erase(7)
        self.assertEqual(caught.exception.thing, 7)
        # A BLOCK that ends behind the last place is one, too.
        self.assertEqual(raised(house.take_fact, (0, FAR)), ("NotThere", {"thing": (0, FAR)}))

    def test_wrong_arguments(self):
        house = House(MODEL, 9, (0, ()), 4)
        house.write(3, "b")
        before = state_of(house)
        for thing in any_values() + changed((0, 4, (1,))) + truths_for_numbers((0, 4, (1,))) + lists_for_tuples((0, 4, (1,))):
            if not are_facts(CAP, 9, (thing,)):
                self.assertEqual(raised(house.put_fact, thing), ("Wrong", {"place": 0}))
            if not is_block(thing):
                self.assertEqual(raised(house.take_fact, thing), ("Wrong", {"place": 0}))
            if not (type(thing) is int and 0 <= thing < 9):
                self.assertEqual(raised(house.write, thing, "a"), ("Wrong", {"place": 0}))
                self.assertEqual(raised(house.write, thing, thing), ("Wrong", {"place": 0}))
                self.assertEqual(raised(house.erase, thing), ("Wrong", {"place": 0}))
            if thing not in ("a", "b"):
                self.assertEqual(raised(house.write, 2, thing), ("Wrong", {"place": 1}))
            self.assertEqual(raised(house.ask, thing), ("Wrong", {"place": 0}))
            self.assertEqual(raised(house.ask, ("letter", thing)) is None, type(thing) is int and 0 <= thing < 9)
        for question in (("letter", 9), ("first", 0, 4, (1,)), ["letter", 0], ("letters", 0, 10), ("measure", True, 2)):
            self.assertEqual(raised(house.ask, question), ("Wrong", {"place": 0}))
        self.assertEqual(state_of(house)[:-1], before[:-1])

    def test_places_up_to_2_to_200(self):
        house = House(MODEL, FAR, (4, ()), 500)
        house.write(FAR - 1, "b")
        house.put_fact((5, FAR - 5, (2,)))
        self.assertEqual(raised(house.write, FAR, "b"), ("Wrong", {"place": 0}))
        self.assertEqual(raised(house.erase, FAR), ("Wrong", {"place": 0}))
        self.assertEqual(raised(house.erase, FAR - 2), ("NotThere", {"thing": FAR - 2}))
        self.assertEqual(raised(house.put_fact, (0, FAR + 1, (2,))), ("Wrong", {"place": 0}))
        self.assertEqual(raised(house.put_fact, (0, FAR, (0, 1))), ("NoRow", {}))
        self.assertEqual(house.ask(("letter", FAR - 1)), "b")
        self.assertEqual(house.ask(("measure", 5, FAR - 5)), 2)
        self.assertEqual(house.ask(("last", 0, FAR, (1, 2))), FAR - 1)
        self.assertGreater(house.remembered(), 200)


class Equality(unittest.TestCase):
    def test_from_both_sides(self):
        house = House(MODEL, 9, (7, ()), 4)
        same = [House(MODEL, 9, (7, ()), 0), House(MODEL, 9, (7, ()), 10 ** 9), house.twin()]
        same[0].write(3, "a")
        same[0].undo()
        same[1].ask(("letter", 4))
        heavier = MODEL[:3] + (MODEL[3][:3] + ((1, "b", 1, 2),),)
        unlike = [House(EVEN, 10, (7, ()), 4), House(MODEL, 10, (7, ()), 4), House(MODEL, 9, (8, ()), 4),
                  House(MODEL, 9, (7, (((), 0, True),)), 4), house.twin(), house.twin(), House(heavier, 9, (7, ()), 4)]
        unlike[4].write(3, "a")
        unlike[5].put_fact((0, 9, (0, 1, 2)))
        for other in same:
            self.assertTrue(house == other and other == house)
            self.assertFalse(house != other or other != house)
        for other in unlike + any_values() + [state_of(house), MODEL]:
            self.assertFalse(house == other)
            self.assertFalse(other == house)
            self.assertTrue(house != other and other != house)
        unlike[4].erase(3)
        unlike[5].take_fact((0, 9))
        self.assertEqual(unlike[4], house)
        self.assertEqual(unlike[5], house)

    def test_twins_led_apart(self):
        house = House(MODEL, 9, (7, ()), 40)
        house.write(2, "b")
        house.put_fact((0, 4, (1, 2)))
        house.ask(("letters", 0, 9))
        before = state_of(house)
        twin = house.twin()
        self.assertEqual(state_of(house), before)
        self.assertEqual(twin, house)
        self.assertEqual(state_of(twin), before)
        twin.write(3, "a")
        twin.undo()
        twin.undo()
        self.assertEqual((twin.facts(), twin.written()), ((), {2: "b"}))
        self.assertEqual((house.facts(), house.written()), (((0, 4, (1, 2)),), {2: "b"}))
        house.undo()
        house.undo()
        self.assertEqual((house.facts(), house.written()), ((), {}))
        self.assertEqual(twin.written(), {2: "b"})
        twin.undo()
        self.assertEqual(raised(twin.undo), ("Nothing", {}))
        self.assertEqual(raised(house.undo), ("Nothing", {}))
        self.assertEqual(twin, house)


class OpenRow(unittest.TestCase):
    def houses(self, seed, sizes=(3, 6), rooms=(0,)):
        chance = random.Random(seed)
        for at, model in enumerate([MODEL, EVEN] + some_models(93, 4, CAP, 3) + some_models(94, 4, FIRSTS, 2) + some_models(96, 5, LASTS, 2)):
            for n in sizes:
                for many in (0, 1, 3, n):
                    if raised(House, model, n, (at, ()), 0) is not None:
                        continue
                    house = House(model, n, (chance.randrange(10 ** 6), ()), chance.choice(rooms))
                    for _ in range(chance.randint(0, 3)):
                        i = chance.randrange(n)
                        lot = tuple([y for y in range(len(model[0][0])) if chance.random() < 0.7])
                        raised(house.put_fact, (i, chance.randint(i + 1, n), lot))
                    for x in chance.sample(range(n), many):
                        house.write(x, chance.choice("ab"))
                    yield house, chance

    def test_it_is_the_row_with_the_written_letters(self):
        for house, chance in self.houses(2):
            n, model = house.length(), house.model()
            args = (model, n, house.facts(), house.coins())
            found = outcome(answered, *args, ("letters", 0, n), 700, 400)
            if found[0] != "returned":
                continue
            letters = list(found[1])
            self.assertTrue(meets(model[0], found[1], house.facts()))
            for x, letter in house.written().items():
                letters[x] = letter
            word = "".join(letters)
            for question in chance.sample(all_asks(model[0], n), 25):
                answer = leaves_alone(self, house.twin().ask, question)
                self.assertEqual(answer, plain_meaning(model[0], word, question), (state_of(house), question))
                self.assertEqual(house.ask(question), answer)

    def test_parts_and_papers(self):
        kinds = {}
        for house, chance in self.houses(3):
            model, n, facts, coins, written = house.model(), house.length(), house.facts(), house.coins(), house.written()
            plain = PlainHouse(model, n)
            plain.facts, plain.written = {fact[:2]: fact[2] for fact in facts}, written
            for question in chance.sample(all_asks(model[0], n), 12):
                expected = plain.answer(coins, question)
                if expected[0] != "returned":
                    continue
                before = state_of(house)
                parts = parts_of(house, question)
                self.assertEqual(parts, expected[2], (before, question))
                kinds[(question[0], len(parts))] = True
                papers = papers_of(house, question)
                self.assertEqual(state_of(house), before)
                self.assertEqual([paper[0] for paper in papers], list(parts))
                for ask, answer, paper in papers:
                    self.assertEqual(answer, answered(model, n, facts, coins, ask, 700, 400))
                    self.assertEqual(paper, paper_of(model, n, facts, coins, ask, 700, 400))
                    self.assertIs(is_paper(model, n, facts, coins, ask, answer, paper), True)
                answer = house.ask(question)
                found = leaves_alone(self, are_papers, model, n, facts, coins, written, question, answer, papers)
                self.assertIs(found, True)
        self.assertGreater(len(kinds), 14)

    def test_no_parts(self):
        house = House(MODEL, 6, (5, ()), 0)
        for x in (1, 2, 5):
            house.write(x, "b")
        whole = (0, 1, 2)
        for question, answer in (
            (("letter", 1), "b"), (("letters", 1, 3), "bb"), (("letters", 4, 4), ""), (("measure", 1, 3), 2),
            (("measure", 0, 0), 0), (("first", 1, 3, (2,)), 2), (("last", 1, 3, (2,)), 1), (("first", 3, 3, whole), None),
            (("last", 3, 3, whole), None), (("first", 0, 6, whole), 0), (("last", 0, 6, whole), 5), (("first", 3, 5, whole), 3),
            (("last", 3, 5, whole), 4), (("first", 1, 3, ()), None), (("last", 6, 6, (1, 2)), None), (("last", 0, 6, (1, 2)), 5),
            (("letters", 5, 6), "b"), (("first", 2, 2, (1, 2)), None),
        ):
            self.assertEqual(house.ask(question), answer, question)
            self.assertEqual(parts_of(house, question), ())
            self.assertEqual(papers_of(house, question), ())
            for its in (answer, 0, 1, None, "", "b", True, False):
                found = are_papers(MODEL, 6, (), (5, ()), house.written(), question, its, ())
                self.assertIs(found, repr(its) == repr(answer))
            self.assertIs(are_papers(MODEL, 6, (), (5, ()), house.written(), question, answer, ((),)), False)
            self.assertEqual(house.remembered(), 0)

    def test_parts_end_where_the_place_is_found(self):
        alone = (CAP, (1,), (1,), ((0, "a", 0, 1),))
        house = House(alone, 12, (0, ()), 0)
        for x in (3, 7, 9):
            house.write(x, "b")
        self.assertEqual(parts_of(house, ("first", 0, 12, (2,))), (
            ("first", 0, 3, (2,)), ("measure", 0, 3), ("first", 4, 7, (1, 2)), ("measure", 4, 7),
        ))
        self.assertEqual(parts_of(house, ("last", 0, 12, (2,))), (
            ("last", 10, 12, (2,)), ("measure", 10, 12), ("last", 8, 9, (1, 2)), ("measure", 8, 9),
        ))
        self.assertEqual(parts_of(house, ("first", 4, 7, (2,))), (("first", 4, 7, (2,)),))
        self.assertEqual(parts_of(house, ("first", 4, 12, ())), (
            ("first", 4, 7, ()), ("measure", 4, 7), ("first", 8, 9, ()), ("measure", 8, 9), ("first", 10, 12, ()),
        ))
        self.assertEqual(parts_of(house, ("last", 0, 3, (1, 2))), (("last", 0, 3, (1, 2)),))
        self.assertEqual([house.ask(("first", 0, 12, (2,))), house.ask(("last", 0, 12, (2,)))], [7, 7])

    def test_the_order_of_products_counts(self):
        for measure in (FIRSTS, LASTS):
            house = House((measure, (1,), (1,), ((0, "a", 0, 1), (0, "b", 0, 1))), 6, (3, ()), 9)
            for x, letter in ((1, "b"), (4, "a")):
                house.write(x, letter)
            word = house.ask(("letters", 0, 6))
            for question in all_asks(measure, 6):
                self.assertEqual(house.ask(question), plain_meaning(measure, word, question))

    def test_too_close_by_the_first_of_the_parts(self):
        thirds = (ONE, (1,), (1,), ((0, "a", 0, 1), (0, "b", 0, 2)))
        told = tuple([(name, k, k % 2 == 1) for name in ((1, 2), (6, 7)) for k in range(410)])
        house = House(thirds, 8, (0, told), 100)
        house.write(4, "a")
        before = state_of(house)
        for question, name in ((("letters", 0, 8), (1, 2)), (("letters", 2, 8), (6, 7)), (("letter", 6), (6, 7))):
            self.assertEqual(outcome(house.ask, question), ("too close", name))
            self.assertEqual(outcome(parts_of, house, question), ("too close", name))
            self.assertEqual(outcome(papers_of, house, question), ("too close", name))
            self.assertEqual(state_of(house), before)
        self.assertEqual(outcome(house.ask, ("letters", 2, 6))[0], "returned")
        self.assertEqual(outcome(house.ask, ("measure", 0, 8)), ("returned", 0))
        for x in (1, 6):
            house.write(x, "b")
        self.assertEqual(len(house.ask(("letters", 0, 8))), 8)

    def test_room_changes_no_answer(self):
        for seed in range(3):
            houses = [House(MODEL, 2 ** 40 + 7, (seed, ()), room) for room in (0, 1, 5, 40, 10 ** 9)]
            chance = random.Random(seed)
            for at in range(14):
                i = chance.randrange(2 ** 40)
                j = chance.randint(i, 2 ** 40 + 7)
                question = chance.choice((("letter", i), ("measure", i, j), ("first", i, j, (2,)), ("last", i, j, (1, 2))))
                step = chance.choice((None, ("write", (i, "b")), ("put_fact", ((i, j + 1, (1, 2)),)), ("undo", ())))
                told = set()
                for house in houses:
                    if step is not None:
                        raised(getattr(house, step[0]), *step[1])
                    told.add(repr((outcome(house.ask, question), house.facts(), house.written())))
                    self.assertLessEqual(house.remembered(), house.room())
                self.assertEqual(len(told), 1)
                # What was asked before counts as little: a new house answers the same.
                new = House(MODEL, 2 ** 40 + 7, (seed, ()), 3)
                for x, letter in houses[0].written().items():
                    new.write(x, letter)
                for fact in houses[0].facts():
                    new.put_fact(fact)
                self.assertEqual(outcome(new.ask, question), outcome(houses[0].ask, question))
                self.assertEqual(new, houses[3])
            self.assertEqual(houses[0].remembered(), 0)
            self.assertGreater(houses[4].remembered(), 0)

    def test_other_facts_make_what_is_remembered_worth_nothing(self):
        questions = (("measure", 0, 12), ("letters", 0, 12), ("first", 0, 12, (2,)), ("last", 3, 12, (1, 2)))
        steps = (
            ("put_fact", (0, 9, (2,))), ("take_fact", (0, 9)), ("put_fact", (0, 9, (0, 1))), ("put_fact", (2, 4, (0,))),
            ("take_fact", (2, 4)), ("put_fact", (2, 4, (1,))), ("undo",), ("undo",), ("undo",), ("put_fact", (0, 12, (2,))), ("undo",),
            ("undo",), ("undo",), ("put_fact", (0, 3, (1,))), ("write", 3, "b"), ("undo",), ("undo",),
        )
        for seed in range(4):
            for room in (10 ** 9, 6):
                house = House(MODEL, 12, (seed, ()), room)
                for name, *arguments in steps:
                    getattr(house, name)(*(arguments if name == "write" else [tuple(one) for one in arguments]))
                    for question in questions:
                        new = House(MODEL, 12, (seed, ()), 0)
                        for fact in house.facts():
                            new.put_fact(fact)
                        for x, letter in house.written().items():
                            new.write(x, letter)
                        self.assertEqual(house.ask(question), new.ask(question), (seed, house.facts(), question))
                        self.assertEqual(papers_of(house, question), papers_of(new, question))
                        self.assertLessEqual(house.remembered(), room)

    def test_by_700_bits_and_400_coins(self):
        for n in (FAR, FAR - 1):
            house = House(MODEL, n, (3, ()), 0)
            house.put_fact((5, 2 ** 90, (2,)))
            for question in (("letter", 2 ** 99), ("measure", 7, 2 ** 50)):
                expected = paper_of(MODEL, n, house.facts(), (3, ()), question, 700, 400)
                self.assertEqual(papers_of(house, question)[0][2], expected)
        # 0, 1, 0, 1 .. runs along the border behind a third part; the last one told leaves it.
        thirds = (ONE, (1,), (1,), ((0, "a", 0, 1), (0, "b", 0, 2)))
        for many, answer in ((399, "b"), (400, "a"), (401, None), (402, None)):
            told = tuple([((1, 2), k, (k % 2 == 1) != (k == many - 1)) for k in range(many)])
            found = outcome(House(thirds, 3, (0, told), 0).ask, ("letter", 1))
            self.assertEqual(found, ("too close", (1, 2)) if answer is None else ("returned", answer))

    def test_what_is_told_may_be_changed(self):
        house = House(MODEL, 9, (7, ()), 40)
        house.write(4, "b")
        answer, papers = house.ask(("measure", 0, 9)), papers_of(house, ("measure", 0, 9))
        self.assertEqual(len(papers), 2)
        tables = [paper[0] for _, _, paper in papers]
        ids = {id(table) for one in tables for table in one.values()} | {id(one) for one in tables}
        self.assertEqual(len(ids), 2 + len(tables[0]) + len(tables[1]))
        kept = copy.deepcopy(papers)
        for one in tables:
            for table in one.values():
                table.clear()
            one.clear()
        self.assertEqual(papers_of(house, ("measure", 0, 9)), kept)
        self.assertEqual(house.ask(("measure", 0, 9)), answer)


class ArePapers(unittest.TestCase):
    def test_with_one_thing_otherwise(self):
        house = House(MODEL, 7, (11, ()), 0)
        house.write(3, "b")
        house.put_fact((0, 3, (0, 1)))
        args = (MODEL, 7, house.facts(), house.coins(), house.written())
        met = {True: 0, False: 0}
        for question in (("letters", 1, 6), ("measure", 1, 6), ("first", 0, 7, (2,)), ("last", 0, 7, (2,)), ("letter", 2)):
            answer, papers = house.ask(question), papers_of(house, question)
            self.assertIs(are_papers(*args, question, answer, papers), True)
            others = [papers[:at] + papers[at + 1:] for at in range(len(papers))]
            others.extend([papers[:at] + papers[at:at + 1] + papers[at:] for at in range(len(papers))])
            others.extend([papers[::-1] + ((),), list(papers), papers + ((),), papers + (None,), (papers,)])
            others.extend([papers + ((None,) + papers[0][1:],), ((None,) + papers[0][1:],) + papers[1:]])
            for at, (ask, its, paper) in enumerate(papers):
                wrong = changed(ask) + truths_for_numbers(ask) + lists_for_tuples(ask)
                others.extend([papers[:at] + ((one, its, paper),) + papers[at + 1:] for one in wrong])
                wrong = [None, True, False, 0, 1, 2, 3, "a", "b", "ab", "", (its,)]
                others.extend([papers[:at] + ((ask, one, paper),) + papers[at + 1:] for one in wrong if repr(one) != repr(its)])
                wrong = [None, (), (paper[0], ()), (paper[0], paper[1][1:]), (paper[0], paper[1] + paper[1][:1]), list(paper), ({}, paper[1])]
                others.extend([papers[:at] + ((ask, its, one),) + papers[at + 1:] for one in wrong])
                others.extend([papers[:at] + (one,) + papers[at + 1:] for one in ([ask, its, paper], (ask, its), (ask, its, paper, 0))])
            for thing in others:
                if thing == papers:
                    continue
                self.assertIs(are_papers(*args, question, answer, thing), False, thing)
                met[False] += 1
            for its in (None, True, False, 0, 1, 2, 3, 4, 5, 6, "a", "b", "", "ababa", (answer,), [answer]):
                found = are_papers(*args, question, its, papers)
                self.assertIs(found, repr(its) == repr(answer))
                met[found] += 1
            for value in any_values():
                self.assertIs(are_papers(*args, question, answer, value), False)
                self.assertIs(are_papers(*args, question, answer, (value,)), False)
                self.assertIs(are_papers(*args, question, value, papers), repr(value) == repr(answer))
        self.assertGreater(met[True], 3)
        self.assertGreater(met[False], 300)

    def test_of_others(self):
        house = House(MODEL, 7, (11, ()), 0)
        house.write(3, "b")
        question = ("measure", 1, 6)
        answer, papers = house.ask(question), papers_of(house, question)
        right = [MODEL, 7, (), (11, ()), {3: "b"}, question]
        for at, others in (
            (0, [EVEN, (CAP, (1,), (1,), ((0, "a", 0, 1),))]), (1, [8, 6]), (2, [((1, 3, (2,)),)]), (3, [(12, ()), (11, (((), 0, True),))]),
            (4, [{}, {2: "b"}, {3: "b", 5: "a"}, {0: "b"}]), (5, [("measure", 1, 5), ("letters", 1, 6), ("letter", 3)]),
        ):
            for other in others:
                its = right[:at] + [other] + right[at + 1:]
                found = are_papers(*its, answer, papers)
                self.assertIn(found, (True, False))
                if at in (0, 1, 2, 4, 5):
                    self.assertIs(found, False, its)
        self.assertIs(are_papers(*right, answer, papers), True)
        # WRITTEN places beside the STRETCH change no part, and dicts may stand in any order.
        self.assertIs(are_papers(*right[:4], {6: "b", 3: "b", 0: "a"}, question, answer, papers), True)

    def test_of_very_many_places(self):
        house = House(MODEL, FAR, (11, ()), 0)
        house.put_fact((2 ** 100, 2 ** 150, (2,)))
        for x, letter in ((2 ** 199, "b"), (7, "a")):
            house.write(x, letter)
        for question in (("measure", 3, FAR), ("last", 0, FAR, (1, 2)), ("first", 2 ** 199 - 5, FAR, (2,))):
            answer, papers = house.ask(question), papers_of(house, question)
            self.assertIs(
                are_papers(MODEL, FAR, house.facts(), (11, ()), house.written(), question, answer, papers), True
            )
            self.assertIs(
                are_papers(MODEL, FAR, house.facts(), (11, ()), {7: "a"}, question, answer, papers), False
            )


if __name__ == "__main__":
    unittest.main()
