"""[36]: a desk, held against the house that it leads."""

import random
import unittest

from tests.helpers import CAP, FIRSTS, PARITY, any_values
from tests.test_house import raised, state_of
from tests.test_rows import MODEL
from unwrittenrow.asks import is_ask
from unwrittenrow.chances import chance_between
from unwrittenrow.desk import Desk
from unwrittenrow.errors import NoCommand, RowError
from unwrittenrow.forms import are_facts
from unwrittenrow.fractions import decimal_above, decimal_below, reduced
from unwrittenrow.house import House, papers_of, read_house, show_house
from unwrittenrow.support import members_at

FAR = 2 ** 200
NO = ("NoCommand", {})


def a_house(n=FAR, model=MODEL, coins=(7, ())):
    house = House(model, n, coins, 500)
    house.write(3, "b")
    if n > 8:
        house.put_fact((2, 8, (1, 2)))
    return house


def as_strings(answer):
    return ["none" if answer is None else str(answer)]


class Commands(unittest.TestCase):
    def test_questions(self):
        for house in (a_house(), a_house(9), a_house(40, MODEL, (9, ()))):
            n = house.length()
            desk = Desk(house)
            lines = {
                "letter 3": ("letter", 3), "letter 0": ("letter", 0), "letters 0 9": ("letters", 0, 9),
                "letters 5 5": ("letters", 5, 5), "measure 0 9": ("measure", 0, 9), "first 0 9 2": ("first", 0, 9, (2,)),
                "first 0 9 1 2": ("first", 0, 9, (1, 2)), "first 0 9": ("first", 0, 9, ()), "last 0 9": ("last", 0, 9, ()),
                "last 0 9 0 1 2": ("last", 0, 9, (0, 1, 2)), "last 1 4 1 2": ("last", 1, 4, (1, 2)),
                f"measure 0 {n}": ("measure", 0, n), f"letter {n - 1}": ("letter", n - 1), "first 4 4 2": ("first", 4, 4, (2,)),
            }
            for line, question in lines.items():
                for told in (line, "  " + line + "   ", line.replace(" ", "    ")):
                    self.assertEqual(desk.execute(told), as_strings(house.ask(question)), told)
        self.assertEqual(desk.execute("letters 5 5"), [""])
        self.assertEqual(desk.execute("first 0 9"), ["none"])

    def test_numbers_in_each_way(self):
        desk = Desk(a_house())
        house = desk.house()
        ways = {
            "3": 3, "2^2": 4, "2^0": 1, "2^2+0": 4, "2^2-1": 3, "2^2+3": 7, "5-5": 0, "5-2": 3, "5+2": 7, "0+3": 3, "0-0": 0,
            "2^200-1": FAR - 1, "2^199": 2 ** 199, "2^199+7": 2 ** 199 + 7, "2^199-9": 2 ** 199 - 9,
            f"{FAR - 1}": FAR - 1, f"{FAR}-1": FAR - 1, f"2^200-{FAR}": 0, f"{10 ** 60 - 1}+1": 10 ** 60,
            f"2^200-{10 ** 60}": FAR - 10 ** 60,
        }
        for word, x in ways.items():
            self.assertEqual(desk.execute(f"letter {word}"), [house.ask(("letter", x))], word)
            self.assertEqual(desk.execute(f"write {word} a"), ["done"])
            self.assertEqual(desk.house().written()[x], "a")
            self.assertEqual(desk.execute(f"erase {word}"), ["done"])
            desk.execute("undo")
            desk.execute("undo")
        self.assertEqual(desk.house(), house)
        self.assertEqual(desk.execute("measure 2^199+1 2^200"), as_strings(house.ask(("measure", 2 ** 199 + 1, FAR))))
        bad = [
            "", "a", "03", "00", "-1", "+1", "3+", "3-", "3-4", "2^", "^2", "2^201", "2^-1", "2^03", "3^2", "2**3", "2^2^2", "2^2+", "2^2-5",
            "1+1+1", "1-1+1", "1+1-1", "1+-1", "1--1", "2^1+2^1", "1+2^1", "0x3", "3.0", "3e1", "1_0", "True", "~", "2 ^2",
            "1" + "0" * 61, "0+" + "1" + "0" * 61, "2^200-" + "1" + "0" * 61, "2^200-1" + "0" * 61, "2^200", "2^200+1", f"{FAR}",
            f"2^201-{2 ** 201 - 1}", f"2^201-{2 ** 200}", "1" * 3000, "2^" + "1" * 3000, "1+03", "01+3", "2^2+03", "(3)", "3;", "#3", "'3'",
        ]
        for word in bad:
            self.assertEqual(raised(desk.execute, f"letter {word}"), NO, word)
            self.assertEqual(raised(desk.execute, f"erase {word}"), NO, word)
        # A number of 61 digits may be told; one of 62 may not, even if it came to a place.
        self.assertEqual(raised(desk.execute, "letter " + "9" * 61), NO)
        self.assertEqual(desk.execute("letter " + str(10 ** 60) + "-" + str(10 ** 60)), desk.execute("letter 0"))
        self.assertEqual(raised(desk.execute, "measure 0 " + str(10 ** 61) + "-" + str(10 ** 61)), NO)
        self.assertEqual(raised(desk.execute, "measure 0 " + "9" * 61 + "-" + "9" * 61), None)

    def test_what_leads_the_house(self):
        house = House(MODEL, FAR, (7, ()), 9)
        desk = Desk(house)
        steps = (
            ("fact 2 9 1 2", lambda one: one.put_fact((2, 9, (1, 2)))), ("write 2^100 b", lambda one: one.write(2 ** 100, "b")),
            ("fact 2 4 0 1", lambda one: one.put_fact((2, 4, (0, 1)))), ("write 0 a", lambda one: one.write(0, "a")),
            ("unfact 2 9", lambda one: one.take_fact((2, 9))), ("erase 2^100", lambda one: one.erase(2 ** 100)),
            ("undo", lambda one: one.undo()), ("undo", lambda one: one.undo()), (" fact 2^100 2^200  2", lambda one: one.put_fact((2 ** 100, FAR, (2,)))),
        )
        for line, step in steps:
            self.assertEqual(desk.execute(line), ["done"])
            step(house)
            self.assertEqual(state_of(desk.house())[:-1], state_of(house)[:-1])
            self.assertEqual(desk.execute("facts"), [
                " ".join([str(x) for x in (i, j) + lot]) for i, j, lot in house.facts()
            ])
            self.assertEqual(desk.execute("written"), [f"{x} {letter}" for x, letter in house.written().items()])
            self.assertEqual(desk.execute("show"), show_house(house).split("\n"))
        self.assertEqual(read_house("\n".join(desk.execute("show"))), house)

    def test_can_and_chance(self):
        for model, n in ((MODEL, FAR), (MODEL, 12), ((FIRSTS, (1,), (1,), ((0, "a", 0, 1), (0, "b", 0, 2))), 2 ** 77)):
            house = House(model, n, (1, ()), 9)
            if model == MODEL:
                house.put_fact((2, 8, (1,)))
            desk = Desk(house)
            for i, j in ((0, 1), (0, n), (1, 3), (2, 8), (7, 12)):
                expected = [str(x) for x in members_at(model, n, house.facts(), i, j)]
                self.assertEqual(desk.execute(f"can {i} {j}"), expected)
            least, most = chance_between(model, n, house.facts(), 128, 40)
            self.assertEqual(desk.execute(" chance "), [decimal_below(least, 10), decimal_above(most, 10)])
        # Where 128 bits count, and where 40 digits do.
        met = [0, 0]
        for e in (92, 95, 98, 101, 104):
            house = House(MODEL, 2 ** e, (0, ()), 0)
            house.put_fact((2, 8, (1,)))
            least, most = chance_between(MODEL, 2 ** e, house.facts(), 128, 40)
            self.assertEqual(Desk(house).execute("chance"), [decimal_below(least, 10), decimal_above(most, 10)])
            for at, bits in enumerate((127, 129)):
                other = chance_between(MODEL, 2 ** e, house.facts(), bits, 40)
                met[at] += decimal_below(other[0], 10) != decimal_below(least, 10)
        self.assertGreater(min(met), 0)
        for a, b, digits in ((1, 1, 40),) + self.where_digits_count():
            house = House((PARITY, (1,), (1,), ((0, "a", 0, a), (0, "b", 0, b))), 1, (0, ()), 0)
            house.put_fact((0, 1, (0,)))
            least, most = chance_between(house.model(), 1, house.facts(), 128, 40)
            self.assertEqual(Desk(house).execute("chance"), [decimal_below(least, 10), decimal_above(most, 10)])
        self.assertEqual(Desk(House(MODEL, 3, (0, ()), 0)).execute("chance"), ["1.0000000000", "1.0000000000"])
        odds = House((PARITY, (1,), (1,), ((0, "a", 0, 2), (0, "b", 0, 1))), 5, (0, ()), 0)
        odds.put_fact((0, 1, (0,)))
        self.assertEqual(Desk(odds).execute("chance"), ["0.6666666666", "0.6666666667"])

    def where_digits_count(self):
        """Return (a, b, digits) for which 40 digits of a by a + b tell another decimal than digits do."""
        chance = random.Random(5)
        found = []
        for digits in (39, 41):
            while True:
                a, b = chance.randint(1, 10 ** 6), chance.randint(1, 10 ** 6)
                told = [decimal_below(reduced((a << many) // (a + b), 1 << many), 10) for many in (40, digits)]
                if told[0] != told[1]:
                    found.append((a, b, digits))
                    break
        return tuple(found)

    def test_papers(self):
        house = a_house(300)
        desk = Desk(house)
        for line, question in (
            ("letter 3", ("letter", 3)), ("letter 4", ("letter", 4)), ("letters 0 9", ("letters", 0, 9)), ("measure 1 200", ("measure", 1, 200)),
            ("first 0 200 2", ("first", 0, 200, (2,))), ("last 0 200 1 2", ("last", 0, 200, (1, 2))), ("last 0 0 1 2", ("last", 0, 0, (1, 2))),
        ):
            expected = [f"{len(tables)} {len(steps)}" for _, _, (tables, steps) in papers_of(house, question)]
            self.assertEqual(desk.execute("papers " + line), expected)
            self.assertEqual(desk.execute("  papers   " + line + " "), expected)
        self.assertEqual(desk.execute("papers letter 3"), [])

    def test_no_command(self):
        desk = Desk(a_house(9))
        before = desk.house()
        bad = [
            "", " ", "x", "Letter 3", "letter", "letter 9", "letter 3 4", "letters 3", "letters 3 2", "letters 0 10", "letters 0 9 1",
            "measure", "measure 1", "measure 1 0", "measure 0 10", "measure 0 9 1", "first 0", "first", "first 0 9 3", "first 0 9 2 1",
            "first 0 9 2 2", "first 0 9 1", "first 0 9 a", "first 0 9 02", "first 0 9 2^1", "first 0 9 -1", "last 0 9 1", "last 0 10 2",
            "fact", "fact 0 10 1", "fact 3 3 1", "fact 3 2 1", "fact 0 1 3", "fact 0 1 1 0", "fact 0 1 1 1", "fact 0", "fact a b 0",
            "fact 0 1 2^0", "unfact", "unfact 2", "unfact 2 2", "unfact 2 10", "unfact 2 8 1", "unfact 3 2", "write", "write 3", "write 9 a",
            "write 3 c", "write 3 ab", "write 3 a a", "write a 3", "write 3 A", "erase", "erase 9", "erase 3 3", "undo 1", "undo undo", "facts 1",
            "written 3", "can", "can 0", "can 0 0", "can 0 10", "can 3 2", "can 0 1 2", "chance 1", "show 1", "papers", "papers letter",
            "papers letter 9", "papers papers letter 3", "papers fact 0 1 1", "papers undo", "papers show", "house", "ask letter 3",
            "letter 3\n", "\nletter 3", "letter\n3", "undo\n", "\n", "write 3\na", "letter 3 # x", "# letter 3", "letter 3;", "twin", "execute",
        ]
        for line in bad:
            self.assertEqual(raised(desk.execute, line), NO, line)
            self.assertEqual(desk.house(), before)
        # A FACT may have no MEMBER at all: nobody meets it.
        self.assertEqual(raised(desk.execute, "fact 0 1"), ("NoRow", {}))

    def test_what_the_house_refuses(self):
        desk = Desk(a_house(9))
        before = desk.house()
        for line, expected in (
            ("fact 4 9 1", ("Crossing", {"fact": (4, 9, (1,))})), ("fact 2 8 1 2", ("Crossing", {"fact": (2, 8, (1, 2))})),
            ("fact 0 9 0", ("NoRow", {})), ("fact 0 9", ("NoRow", {})), ("unfact 2 7", ("NotThere", {"thing": (2, 7)})),
            ("erase 4", ("NotThere", {"thing": 4})),
        ):
            self.assertEqual(raised(desk.execute, line), expected)
            self.assertEqual(desk.house(), before)
        desk.execute("undo")
        desk.execute("undo")
        self.assertEqual(raised(desk.execute, "undo"), ("Nothing", {}))
        self.assertEqual((desk.house().facts(), desk.house().written()), ((), {}))
        told = tuple([(name, k, k % 2 == 1) for name in ((4, 5),) for k in range(410)])
        thirds = ((((0,),), (("a", 0), ("b", 0))), (1,), (1,), ((0, "a", 0, 1), (0, "b", 0, 2)))
        desk = Desk(House(thirds, 8, (0, told), 9))
        for line in ("letter 4", "letters 0 8", "papers letter 4"):
            self.assertEqual(raised(desk.execute, line), ("TooClose", {"name": (4, 5)}))
        self.assertEqual(desk.execute("measure 0 8"), ["0"])
        eight = Desk(House(thirds, 80, (0, ()), 9))
        for k in range(8):
            eight.execute(f"fact {k} {k + 1} 0")
        self.assertEqual(raised(eight.execute, "fact 9 10 0"), ("TooMany", {"most": 8}))

    def test_wrong_arguments(self):
        house = a_house(9)
        desk = Desk(house)
        for thing in any_values() + [desk, MODEL]:
            if not isinstance(thing, House):
                self.assertEqual(raised(Desk, thing), ("Wrong", {"place": 0}))
            if isinstance(thing, str):
                self.assertEqual(raised(desk.execute, thing), NO)
            else:
                self.assertEqual(raised(desk.execute, thing), ("Wrong", {"place": 0}))
        self.assertEqual(desk.house(), house)


class Twins(unittest.TestCase):
    def test_the_house_is_a_twin(self):
        house = a_house(9)
        desk = Desk(house)
        self.assertEqual(desk.house(), house)
        house.write(0, "a")
        self.assertNotEqual(desk.house(), house)
        given = desk.house()
        given.write(5, "a")
        given.undo()
        given.undo()
        self.assertEqual(given.facts(), ())
        self.assertEqual(desk.execute("facts"), ["2 8 1 2"])
        # It leads what can be taken back, too.
        desk.execute("undo")
        desk.execute("undo")
        self.assertEqual(raised(desk.execute, "undo"), ("Nothing", {}))
        self.assertEqual(len(house.facts()), 1)

    def test_twins_led_apart(self):
        desk = Desk(a_house(9))
        desk.execute("write 7 a")
        twin = desk.twin()
        self.assertIsInstance(twin, Desk)
        self.assertEqual(twin, desk)
        twin.execute("undo")
        self.assertNotEqual(twin, desk)
        self.assertEqual(desk.execute("written"), ["3 b", "7 a"])
        self.assertEqual(twin.execute("written"), ["3 b"])
        desk.execute("erase 7")
        self.assertEqual(twin, desk)

    def test_equality_from_both_sides(self):
        house = a_house(9)
        one, other = Desk(house), Desk(house.twin())
        self.assertTrue(one == other and other == one)
        other.execute("letter 5")
        self.assertTrue(one == other and not one != other)
        other.execute("write 5 a")
        self.assertFalse(one == other or other == one)
        for thing in any_values() + [house, show_house(house), MODEL]:
            self.assertFalse(one == thing)
            self.assertFalse(thing == one)
            self.assertTrue(one != thing and thing != one)
        other.execute("undo")
        self.assertEqual(one, other)

    def test_what_is_told_may_be_changed(self):
        desk = Desk(a_house(9))
        for line in ("facts", "written", "show", "can 0 9", "chance", "letters 0 9", "papers letters 0 9"):
            first = desk.execute(line)
            self.assertIs(type(first), list)
            self.assertTrue(all(type(one) is str for one in first))
            kept = list(first)
            first.clear()
            self.assertEqual(desk.execute(line), kept)

    def test_led_by_chance(self):
        chance = random.Random(4)
        desk, house = Desk(House(MODEL, 9, (5, ()), 9)), House(MODEL, 9, (5, ()), 0)
        done = 0
        for _ in range(400):
            i, j = chance.randrange(-1, 10), chance.randrange(0, 11)
            lot = tuple([y for y in range(3) if chance.random() < 0.7])
            kind = chance.choice(("letter", "letters", "measure", "first", "last", "fact", "unfact", "write", "erase", "undo"))
            members = " ".join([str(y) for y in lot])
            line = {"letter": f"letter {i}", "fact": f"fact {i} {j} {members}", "unfact": f"unfact {i} {j}", "write": f"write {i} b",
                    "erase": f"erase {i}", "undo": "undo", "first": f"first {i} {j} {members}", "last": f"last {i} {j} {members}"
                    }.get(kind, f"{kind} {i} {j}")
            question = {"letter": ("letter", i), "first": ("first", i, j, lot), "last": ("last", i, j, lot)}.get(kind, (kind, i, j))
            call = {
                "fact": lambda: house.put_fact((i, j, lot)), "unfact": lambda: house.take_fact((i, j)),
                "write": lambda: house.write(i, "b"), "erase": lambda: house.erase(i), "undo": house.undo,
            }.get(kind, lambda: house.ask(question))
            fits = {
                "fact": are_facts(CAP, 9, ((i, j, lot),)), "unfact": 0 <= i < j <= 9, "write": 0 <= i < 9, "erase": 0 <= i < 9,
                "undo": True,
            }.get(kind, is_ask(CAP, 9, question))
            if not fits:
                self.assertRaises(NoCommand, desk.execute, line)
                continue
            try:
                answer = call()
                expected = as_strings(answer) if kind in ("letter", "letters", "measure", "first", "last") else ["done"]
                self.assertEqual(desk.execute(line), expected, line)
                done += 1
            except RowError as error:
                self.assertEqual(raised(desk.execute, line), (type(error).__name__, vars(error)))
            self.assertEqual(desk.house(), house)
        self.assertGreater(done, 100)


if __name__ == "__main__":
    unittest.main()
