"""[17], [18]: texts of MODELS, FACTS and COINS."""

import random
import re
import unittest

from tests.helpers import (
    CAP, FIRSTS, ONE, PARITY, any_values, changed, leaves_alone, named_measures, some_measures, some_models,
)
from unwrittenrow.errors import NoText, Wrong
from unwrittenrow.forms import are_coins, are_facts, is_measure, is_model
from unwrittenrow.models import behind, mixed
from unwrittenrow.reader import read_coins, read_facts, read_model
from unwrittenrow.shower import show_coins, show_facts, show_model

MODEL = (CAP, (1, 0), (3, 10 ** 6), ((0, "a", 0, 2), (0, "b", 1, 10 ** 6), (1, "a", 0, 3)))
MODEL_LINES = [
    "table 0 1 2 ; 1 2 2 ; 2 2 2", "letter a 0", "letter b 1", "begin 1 0", "end 3 1000000",
    "arc 0 a 0 2", "arc 0 b 1 1000000", "arc 1 a 0 3",
]
FACTS = ((0, 8, (0, 2)), (2, 4, ()), (4, 8, (1,)))
FACT_LINES = ["fact 0 8 0 2", "fact 2 4", "fact 4 8 1"]
COINS = (7, (((), 0, False), ((), 12, True), ((0, 2), 1, True), ((0, 3), 0, False)))
COIN_LINES = ["seed 7", "coin whole 0 no", "coin whole 12 yes", "coin 0 2 1 yes", "coin 0 3 0 no"]
MODELS = [MODEL] + some_models(1, 30) + some_models(2, 10, FIRSTS, 6, 10 ** 6) + [
    (measure, (0,), (0,), ()) for measure in named_measures() + some_measures(3, 10)
]


def cap_facts(text, n=8):
    return read_facts(CAP, n, text)


# What the lines of a text, taken together, may be, for texts that are changed by chance.

def rows_of(text):
    """Return the tuples (line, words) of a text."""
    rows = [
        (at, re.findall(r";|[^ ;]+", re.sub(r"#.*", "", line))) for at, line in enumerate(text.split("\n"))
    ]
    return [(at, words) for at, words in rows if words]


def numbers(words):
    return tuple([int(word) if re.fullmatch(r"0|[1-9][0-9]*", word) else None for word in words])


def model_of(rows):
    """Return the MODEL of rows, filled up if some lack; `None` if they cannot be the first ones of any."""
    order = " ".join([words[0] for words in rows])
    if not re.fullmatch(r"(table(( letter)+( begin( end( arc)*)?)?)?)?", order):
        return None
    told = lambda first: [words[1:] for words in rows if words[0] == first]
    if any(len(rest) != 2 for rest in told("letter")) or any(len(rest) != 4 for rest in told("arc")):
        return None
    table = ((0,),)
    for rest in told("table"):
        table = tuple([numbers(row.split()) for row in " ".join(rest).split(";")])
    values = [(letter, numbers([member])[0]) for letter, member in told("letter")] or [("a", 0)]
    begins = numbers(told("begin")[0]) if told("begin") else (0,)
    ends = numbers(told("end")[0]) if told("end") else (0,) * len(begins)
    arcs = [numbers([p]) + (letter,) + numbers([q, w]) for p, letter, q, w in told("arc")]
    if any(None in one for one in [*values, begins, ends, *arcs, *table]):
        return None
    model = ((table, tuple(sorted(values))), begins, ends, tuple(sorted(arcs)))
    return model if is_model(model) else None


def facts_of(rows):
    """Return the FACTS for 8 of rows; `None` if they tell none."""
    if any(words[0] != "fact" or len(words) < 3 or None in numbers(words[1:]) for words in rows):
        return None
    told = [numbers(words[1:]) for words in rows]
    facts = tuple(sorted([one[:2] + (tuple(sorted(one[2:])),) for one in told]))
    return facts if are_facts(CAP, 8, facts) else None


def coins_of(rows):
    """Return the COINS of rows, the seed 0 if it lacks; `None` if they tell none."""
    if not re.fullmatch(r"(seed( coin)*)?", " ".join([words[0] for words in rows])):
        return None
    seed, told = 0, []
    for words in rows:
        line = " ".join(words)
        if re.fullmatch(r"seed (0|[1-9]\d*)", line):
            seed = int(words[1])
        elif re.fullmatch(r"coin (whole|(0|[1-9]\d*) (0|[1-9]\d*)) (0|[1-9]\d*) (yes|no)", line):
            name = () if words[1] == "whole" else (int(words[1]), int(words[2]))
            told.append((name, int(words[-2]), words[-1] == "yes"))
        else:
            return None
    coins = (seed, tuple(sorted(told)))
    return coins if are_coins(coins) else None


def outcome(read, text):
    try:
        return read(text)
    except NoText as error:
        return ("no text", error.line)


def expected(plain, needed, text):
    """Return what reading a text should come to: plain(rows) may tell, from few rows on, what is bad."""
    rows = rows_of(text)
    for many in range(1, len(rows) + 1):
        if plain([words for _, words in rows[:many]]) is None:
            return ("no text", rows[many - 1][0])
    firsts = [words[0] for _, words in rows]
    if any(first not in firsts for first in needed):
        return ("no text", text.count("\n") + 1)
    return plain([words for _, words in rows])


class Shown(unittest.TestCase):
    def test_models(self):
        self.assertEqual(leaves_alone(self, show_model, MODEL).split("\n"), MODEL_LINES)
        least = ((((0,),), (("q", 0),)), (0,), (0,), ())
        self.assertEqual(show_model(least), "table 0\nletter q 0\nbegin 0\nend 0")
        wide = mixed(MODEL, MODEL, 1000, 1)
        self.assertEqual(show_model(wide).split("\n")[3:5], ["begin 1000 0 1 0", "end 3 1000000 3 1000000"])
        self.assertEqual(show_model(behind(MODEL, MODEL)).split("\n")[3], "begin 1 0 3 0")
        great = (ONE, (10 ** 5000,), (1,), ())
        self.assertEqual(show_model(great).split("\n")[3], "begin 1" + "0" * 5000)

    def test_facts(self):
        self.assertEqual(leaves_alone(self, show_facts, FACTS).split("\n"), FACT_LINES)
        self.assertEqual(show_facts(()), "")
        self.assertEqual(show_facts(((0, 2 ** 200, (5, 7)),)), f"fact 0 {2 ** 200} 5 7")

    def test_coins(self):
        self.assertEqual(leaves_alone(self, show_coins, COINS).split("\n"), COIN_LINES)
        self.assertEqual(show_coins((0, ())), "seed 0")
        self.assertEqual(show_coins((10 ** 39, ())), "seed 1" + "0" * 39)
        self.assertEqual(
            show_coins((1, (((2 ** 199, 2 ** 200), 10 ** 30, False),))),
            f"seed 1\ncoin {2 ** 199} {2 ** 200} 1{'0' * 30} no",
        )


class ReadAgain(unittest.TestCase):
    def test_what_was_shown(self):
        for model in MODELS:
            self.assertTrue(is_model(model))
            self.assertEqual(leaves_alone(self, read_model, show_model(model)), model)
        self.assertEqual(leaves_alone(self, read_facts, CAP, 8, show_facts(FACTS)), FACTS)
        self.assertEqual(read_facts(PARITY, 2 ** 200, f"fact 0 {2 ** 200} 1"), ((0, 2 ** 200, (1,)),))
        self.assertEqual(leaves_alone(self, read_coins, show_coins(COINS)), COINS)
        self.assertEqual(read_coins("seed " + "9" * 2990), (10 ** 2990 - 1, ()))

    def test_empty_texts(self):
        for text in ("", "\n", "  \n# fact 0 1\n   #"):
            self.assertEqual(cap_facts(text), ())
            for read in (read_model, read_coins):
                with self.assertRaises(NoText) as caught:
                    read(text)
                self.assertEqual(caught.exception.line, text.count("\n") + 1)

    def test_lines_in_another_order(self):
        chance = random.Random(4)
        for _ in range(20):
            letters, arcs = MODEL_LINES[1:3], MODEL_LINES[5:]
            chance.shuffle(letters)
            chance.shuffle(arcs)
            self.assertEqual(read_model("\n".join(MODEL_LINES[:1] + letters + MODEL_LINES[3:5] + arcs)), MODEL)
            facts, coins = FACT_LINES[:], COIN_LINES[1:]
            chance.shuffle(facts)
            chance.shuffle(coins)
            self.assertEqual(cap_facts("\n".join(facts)), FACTS)
            self.assertEqual(read_coins("\n".join(COIN_LINES[:1] + coins)), COINS)
        self.assertEqual(cap_facts("fact 0 3 2 0 1"), ((0, 3, (0, 1, 2)),))

    def test_blanks_remarks_and_empty_lines(self):
        def loosely(lines):
            found = ["", "   ", "# what was"]
            for line in lines:
                found.extend(["  " + line.replace(" ", "   ") + "  # table ; # coin", "#", "  "])
            return "\n".join(found)

        self.assertEqual(read_model(loosely(MODEL_LINES)), MODEL)
        self.assertEqual(cap_facts(loosely(FACT_LINES)), FACTS)
        self.assertEqual(read_coins(loosely(COIN_LINES)), COINS)
        rest = MODEL_LINES[1:]
        for table in ("table 0 1 2;1 2 2;2 2 2", "table 0 1 2; 1 2 2 ;2 2 2#;", "table  0 1 2  ;1 2 2;  2 2 2"):
            self.assertEqual(read_model("\n".join([table] + rest)), MODEL)
        self.assertEqual(read_coins("seed 7#0\ncoin 0 1 0 yes#no"), (7, (((0, 1), 0, True),)))
        self.assertEqual(read_coins("seed 7\n\n\n"), (7, ()))


class BadLines(unittest.TestCase):
    def bad(self, read, text, line):
        with self.subTest(text=text):
            with self.assertRaises(NoText) as caught:
                read(text)
            self.assertEqual(caught.exception.line, line)

    def bad_at(self, read, lines, at, line):
        """See that a line in the place of another one is told, and told first."""
        whole = lines[:at] + [line] + lines[at + 1:]
        self.bad(read, "\n".join(whole), at)
        self.bad(read, "\n".join(["", "# remark", "  "] + whole), at + 3)
        self.bad(read, "\n".join(whole + ["bad", "worse"]), at)
        self.bad(read, "\n".join(whole[:at + 1]), at)

    def test_tables(self):
        for line in (
            "table", "table ;", "table 0 ;", "table ; 0", "table 0 1 ; 1", "table 0 1 ; 1 0 0", "table 0 1 1 0",
            "table 0 1 ; 1 0 ;", "table 0 1 ; ; 1 0", "table 1", "table 0 1 ; 1 2", "table 0 1 ; 1 -1",
            "table 0 1 ; 1 01", "table 0 1 ; 1 +0", "table 0 1 ; 1 a", "table 0 1 2 ; 1 2 1 ; 2 1 0",
            "table 0 1 2 ; 0 1 2 ; 0 1 2", "table 0 0 0 ; 1 1 1 ; 2 2 2", "table a", "Table 0", "tables 0",
            "table " + " ; ".join([" ".join([str((x + y) % 9) for y in range(9)]) for x in range(9)]),
        ):
            self.bad_at(read_model, MODEL_LINES, 0, line)

    def test_letters(self):
        for line in (
            "letter", "letter a", "letter a 0 0", "letter a 3", "letter a -1", "letter a 00", "letter A 0",
            "letter ab 0", "letter 0 a", "letter a a", "letter ; 0", "letter a ;", "letters a 0", "letter a 0 ;",
            "letter { 0", "letter a +0", "letter a 1_0", "table 0",
        ):
            self.bad_at(read_model, MODEL_LINES, 1, line)
        self.bad_at(read_model, MODEL_LINES, 2, "letter a 0")
        self.bad_at(read_model, MODEL_LINES, 2, "letter a 1")

    def test_six_letters_and_a_seventh(self):
        lines = ["table 0"] + [f"letter {letter} 0" for letter in "zabcde"] + ["begin 0", "end 0"]
        self.assertEqual([letter for letter, _ in read_model("\n".join(lines))[0][1]], list("abcdez"))
        self.bad(read_model, "\n".join(lines[:7] + ["letter q 0"] + lines[7:]), 7)

    def test_begins(self):
        for line in (
            "begin", "begin 1000001", "begin -1", "begin 01", "begin a", "begin 0 0 0 0 0 0 0", "begin 0 ; 0",
            "begin 0 0 x", "begins 0 0", "end 0 0", "arc 0 a 0 1", "table 0", "begin +1 0", "begin 1 1000001",
        ):
            self.bad_at(read_model, MODEL_LINES, 3, line)
        six = MODEL_LINES[:3] + ["begin 0 0 0 0 0 1000000", "end 1 1 1 1 1 1"]
        self.assertEqual(len(read_model("\n".join(six))[1]), 6)

    def test_ends(self):
        for line in (
            "end", "end 0", "end 0 0 0", "end 0 1000001", "end 0 -1", "end 0 00", "end 0 a", "end 0 0 ;",
            "begin 0 0", "letter c 0", "table 0", "arc 0 a 0 1", "ends 0 0",
        ):
            self.bad_at(read_model, MODEL_LINES, 4, line)

    def test_arcs(self):
        for line in (
            "arc", "arc 0 a 0", "arc 0 a 0 2 2", "arc 2 a 0 2", "arc 0 a 2 2", "arc -1 a 0 2", "arc 0 a -1 2",
            "arc 0 c 0 2", "arc 0 A 0 2", "arc 0 ab 0 2", "arc 0 a 0 0", "arc 0 a 0 1000001", "arc 0 a 0 -2",
            "arc 00 a 0 2", "arc 0 a 00 2", "arc 0 a 0 02", "arc 0 a 0 +2", "arc a 0 0 2", "arc 0 a 0 ;",
            "begin 1 0", "end 1 0", "letter c 0", "table 0", "arcs 0 a 0 2", "fact 0 1", "seed 0",
        ):
            self.bad_at(read_model, MODEL_LINES, 5, line)
        self.bad_at(read_model, MODEL_LINES, 6, "arc 0 a 0 2")
        self.bad_at(read_model, MODEL_LINES, 7, "arc 0 a 0 7")
        self.bad_at(read_model, MODEL_LINES, 7, "arc 0 b 1 1")

    def test_lines_without_those_ahead(self):
        for lines, line in (
            (MODEL_LINES[1:], 0), (MODEL_LINES[3:], 0), (MODEL_LINES[4:], 0), (MODEL_LINES[5:], 0),
            (MODEL_LINES[:1] + MODEL_LINES[3:], 1), (MODEL_LINES[:1] + MODEL_LINES[4:], 1),
            (MODEL_LINES[:3] + MODEL_LINES[4:], 3), (MODEL_LINES[:4] + MODEL_LINES[5:], 4),
            (MODEL_LINES + ["table 0"], 8), (MODEL_LINES + MODEL_LINES[1:2], 8), (MODEL_LINES * 2, 8),
        ):
            self.bad(read_model, "\n".join(lines), line)

    def test_what_lacks_at_the_end(self):
        for many in range(5):
            self.bad(read_model, "\n".join(MODEL_LINES[:many]), max(many, 1))
            self.bad(read_model, "\n".join(MODEL_LINES[:many] + ["", "#"]), many + 2)
        self.assertEqual(read_model("\n".join(MODEL_LINES[:5]))[3], ())
        self.bad(read_coins, "# seed 7\n\n", 3)

    def test_facts(self):
        for line in (
            "fact", "fact 0", "fact 0 9 0", "fact 3 3 0", "fact 4 3 0", "fact -1 3 0", "fact 0 8 3", "fact 0 8 0 0",
            "fact 0 8 2 0 2", "fact 0 8 -1", "fact 00 8 0", "fact 0 08 0", "fact 0 8 00", "fact 0 8 a", "fact a 8 0",
            "fact 0 8 ; 0", "fact 0 8 0 ;", "facts 0 8 0", "seed 0", "coin whole 0 yes", "0 8 0", "fact 0 +8",
        ):
            self.bad_at(cap_facts, FACT_LINES, 0, line)
        for at, line in (
            (1, "fact 0 8"), (1, "fact 0 8 0 2"), (2, "fact 1 3 0"), (2, "fact 3 5 0"), (2, "fact 2 4 1"),
            (2, "fact 0 3"), (2, "fact 3 8"),
        ):
            self.bad_at(cap_facts, FACT_LINES, at, line)
        self.assertEqual(cap_facts("fact 7 8"), ((7, 8, ()),))
        self.assertEqual(cap_facts("\n".join([f"fact {i} {i + 1} 1" for i in range(20)]), 20)[19], (19, 20, (1,)))

    def test_coins(self):
        for line in (
            "seed", "seed 7 7", "seed -7", "seed 07", "seed +7", "seed a", "seed ;", "seeds 7", "coin whole 0 yes",
            "coin 0 1 0 yes", "fact 0 1 0", "7", "seed 7 ; 7",
        ):
            self.bad_at(read_coins, COIN_LINES, 0, line)
        for line in (
            "coin", "coin whole", "coin whole 0", "coin whole yes", "coin whole 0 maybe", "coin whole 0 Yes",
            "coin whole 0 True", "coin whole 0 1 yes", "coin whole -1 yes", "coin whole 00 yes", "coin 0 1 yes",
            "coin 0 yes", "coin 1 1 0 yes", "coin 2 1 0 yes", "coin -1 1 0 yes", "coin 0 1 -1 yes", "coin 0 1 0",
            "coin 0 01 0 yes", "coin 00 1 0 yes", "coin 0 1 00 yes", "coin 0 1 0 yes no", "coin 0 1 0 0 yes",
            "coin 0 1 0 yes ;", "coin () 0 yes", "seed 7", "seed 8", "coins whole 0 yes", "coin yes",
        ):
            self.bad_at(read_coins, COIN_LINES, 1, line)
        self.bad_at(read_coins, COIN_LINES, 2, "coin whole 0 no")
        self.bad_at(read_coins, COIN_LINES, 2, "coin whole 0 yes")
        self.bad_at(read_coins, COIN_LINES, 4, "coin 0 2 1 no")

    def test_texts_changed_by_chance(self):
        chance = random.Random(5)
        words = "table letter begin end arc fact seed coin whole yes no a b c A ; # 0 1 2 3 01 -1 8 9 1000001".split()
        cases = (
            (read_model, model_of, ("table", "letter", "begin", "end"), MODEL_LINES),
            (cap_facts, facts_of, (), FACT_LINES + ["fact 0 2 1", "fact 5 7 0 1"]),
            (read_coins, coins_of, ("seed",), COIN_LINES),
        )
        for read, plain, needed, lines in cases:
            whole = refused = 0
            for _ in range(4000):
                rows = [line.split(" ") for line in lines]
                for _ in range(chance.randint(0, 2)):
                    self.change(chance, rows, words)
                text = "\n".join([" ".join(row) for row in rows])
                told = expected(plain, needed, text)
                self.assertEqual(outcome(read, text), told, text)
                whole, refused = whole + (told[0] != "no text"), refused + (told[0] == "no text")
            self.assertTrue(whole > 500 and refused > 500)

    def change(self, chance, rows, words):
        if not rows:
            return
        at = chance.randrange(len(rows))
        kind = chance.randrange(7)
        if kind == 0:
            del rows[at]
        elif kind == 1:
            rows.insert(chance.randrange(len(rows) + 1), rows[at][:])
        elif kind == 2:
            other = chance.randrange(len(rows))
            rows[at], rows[other] = rows[other], rows[at]
        elif kind == 3:
            rows[at].insert(chance.randrange(len(rows[at]) + 1), chance.choice(words))
        elif kind == 4 and rows[at]:
            del rows[at][chance.randrange(len(rows[at]))]
        elif rows[at]:
            rows[at][chance.randrange(len(rows[at]))] = chance.choice(words)


class WrongArguments(unittest.TestCase):
    def wrong(self, place, call, *arguments):
        with self.subTest(arguments=repr(arguments)[:100]):
            with self.assertRaises(Wrong) as caught:
                leaves_alone(self, call, *arguments)
            self.assertEqual(caught.exception.place, place)
            self.assertIs(type(caught.exception.place), int)

    def test_of_any_kind(self):
        for thing in any_values():
            if not isinstance(thing, str):
                self.wrong(0, read_model, thing)
                self.wrong(0, read_coins, thing)
                self.wrong(2, read_facts, CAP, 8, thing)
            if not is_measure(thing):
                self.wrong(0, read_facts, thing, 8, "")
            if not (type(thing) is int and thing >= 1):
                self.wrong(1, read_facts, CAP, thing, "")

    def test_strings_of_any_kind_are_no_wrong_arguments(self):
        for thing in any_values():
            if isinstance(thing, str):
                self.assertEqual(outcome(read_model, thing)[0], "no text")
                self.assertEqual(outcome(read_coins, thing)[0], "no text")
                self.assertIn(outcome(cap_facts, thing), ((), ("no text", 0)))

    def test_measures_that_are_none(self):
        for measure in changed(CAP):
            if not is_measure(measure):
                self.wrong(0, read_facts, measure, 8, "fact 0 8")

    def test_the_first_one_counts_and_comes_ahead_of_bad_lines(self):
        self.wrong(0, read_facts, None, 0, None)
        self.wrong(0, read_facts, MODEL, True, "bad")
        self.wrong(1, read_facts, CAP, 0, None)
        self.wrong(1, read_facts, CAP, True, "bad")
        self.wrong(1, read_facts, CAP, -1, "bad")
        self.wrong(2, read_facts, CAP, 1, ["fact 0 1"])
        self.assertEqual(outcome(lambda text: read_facts(CAP, 1, text), "fact 0 2"), ("no text", 0))
        self.assertEqual(read_facts(CAP, 2 ** 300, "fact 0 1"), ((0, 1, ()),))


if __name__ == "__main__":
    unittest.main()
