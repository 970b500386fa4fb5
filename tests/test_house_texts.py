"""[35]: texts of houses, shown and read again, and the first bad line of those that cannot be read."""

import random
import unittest

from tests.helpers import CAP, PARITY, any_values, leaves_alone, some_models
from tests.test_house import COUNT8, DEAD, EVEN, raised, state_of
from tests.test_rows import MODEL
from unwrittenrow.errors import NoText
from unwrittenrow.house import House, read_house, show_house
from unwrittenrow.reader import read_coins, read_facts, read_model
from unwrittenrow.shower import show_coins, show_facts, show_model
from unwrittenrow.weights import total_under

FAR = 2 ** 200


def some_house(seed):
    chance = random.Random(seed)
    model = chance.choice([MODEL, EVEN] + some_models(seed, 3, CAP, 3))
    n = chance.choice((1, 2, 8, 1000, FAR))
    told = tuple(sorted({
        (chance.choice(((), (0, 4), (7, FAR))), chance.randrange(3)): chance.random() < 0.5 for _ in range(4)
    }.items()))
    coins = (chance.choice((0, 7, 10 ** 39)), tuple([(name, k, truth) for (name, k), truth in told]))
    if raised(House, model, n, coins, 0) is not None:
        return House(MODEL, 8, coins, 3)
    house = House(model, n, coins, chance.choice((0, 5, 10 ** 199)))
    for _ in range(chance.randint(0, 5)):
        i = chance.randrange(n)
        lot = tuple([y for y in range(len(model[0][0])) if chance.random() < 0.8])
        raised(house.put_fact, (i, chance.randint(i + 1, n), lot))
        house.write(chance.randrange(n), chance.choice("ab"))
    return house


class Shown(unittest.TestCase):
    def test_line_by_line(self):
        house = House(MODEL, FAR, (7, (((), 0, False), ((0, 4), 1, True))), 10 ** 199)
        house.write(FAR - 1, "b")
        house.write(12, "a")
        house.put_fact((2, 9, (1, 2)))
        house.put_fact((2, 4, (0, 1)))
        self.assertEqual(show_house(house).split("\n"), [
            f"length {FAR}", f"room {10 ** 199}", "seed 7", "coin whole 0 no", "coin 0 4 1 yes", "fact 2 4 0 1",
            "fact 2 9 1 2", "write 12 a", f"write {FAR - 1} b", "model", "table 0 1 2 ; 1 2 2 ; 2 2 2", "letter a 0",
            "letter b 1", "begin 1 0", "end 1 1", "arc 0 a 0 3", "arc 0 b 1 1", "arc 1 a 0 2", "arc 1 b 1 1",
        ])
        bare = House(EVEN, 2, (0, ()), 0)
        self.assertEqual(show_house(bare).split("\n")[:4], ["length 2", "room 0", "seed 0", "model"])

    def test_shown_and_read_again(self):
        for seed in range(60):
            house = some_house(seed)
            before = state_of(house)
            text = show_house(house)
            self.assertEqual(state_of(house), before)
            model, coins, facts = show_model(house.model()), show_coins(house.coins()), show_facts(house.facts())
            self.assertEqual(text, "\n".join(
                [f"length {house.length()}", f"room {house.room()}", coins] + ([facts] if facts else [])
                + [f"write {x} {letter}" for x, letter in house.written().items()] + ["model", model]
            ))
            its = leaves_alone(self, read_house, text)
            self.assertEqual(its, house)
            self.assertEqual(state_of(its)[:-1], before[:-1])
            self.assertEqual(raised(its.undo), ("Nothing", {}))
            self.assertEqual(show_house(its), text)
            its.write(0, "a")
            self.assertNotEqual(show_house(read_house(text)).split("\n") + ["x"], show_house(its).split("\n"))
            self.assertEqual(read_house(text), house)

    def test_read_and_shown_anew_with_blanks_remarks_and_lines_in_any_order(self):
        chance = random.Random(2)
        sorts = ("coin", "fact", "write", "letter", "arc")
        for seed in range(40):
            house = some_house(seed)
            lines = show_house(house).split("\n")
            for sort in sorts:
                places = [at for at, line in enumerate(lines) if line.split(" ")[0] == sort]
                others = [lines[at] for at in places]
                chance.shuffle(others)
                for at, line in zip(places, others):
                    lines[at] = line
            out = []
            for line in lines:
                out.extend(chance.choice(([], [], [""], ["  "], ["# length 9"], [" #"])))
                line = line.replace(" ", chance.choice((" ", "  ", "   ")))
                line = line.replace(" ; ", chance.choice((";", " ;", "; ", " ; ")))
                out.append(chance.choice(("", " ")) + line + chance.choice(("", " ", " # model 3", "#")))
            out.extend(chance.choice(([], [""], ["#"])))
            its = read_house("\n".join(out))
            self.assertEqual(its, house)
            self.assertEqual(its.room(), house.room())


LINES = [
    "length 8", "room 3", "seed 7", "coin whole 0 no", "coin 0 4 1 yes", "fact 2 4 0 1", "fact 5 6 0 1 2", "write 3 a",
    "write 0 b", "model", "table 0 1 2 ; 1 2 2 ; 2 2 2", "letter a 0", "letter b 1", "begin 1 0", "end 1 1",
    "arc 0 a 0 3", "arc 0 b 1 1", "arc 1 a 0 2", "arc 1 b 1 1",
]


def told(lines):
    """Return what reading raises: an index, the name of another error, or `None`."""
    found = raised(read_house, "\n".join(lines))
    if found is None:
        return None
    return found[1]["line"] if found[0] == "NoText" else found


class Bad(unittest.TestCase):
    def with_line(self, at, *others):
        return LINES[:at] + list(others) + LINES[at + 1:]

    def test_the_lines_are_right(self):
        self.assertIsNone(told(LINES))
        house = read_house("\n".join(LINES))
        self.assertEqual(state_of(house), (
            MODEL, 8, (7, (((), 0, False), ((0, 4), 1, True))), 3, ((2, 4, (0, 1)), (5, 6, (0, 1, 2))), {0: "b", 3: "a"}, 0
        ))
        self.assertEqual(list(house.written()), [0, 3])

    def test_one_line_otherwise(self):
        bad = {
            0: ["length", "length 0", "length 08", "length +8", "length 8 8", "length -8", f"length {FAR + 1}", "length a", "Length 8",
                "length 8 ;", "length 2^3", "x"],
            1: ["room", "room -1", "room 03", "room 3 3", "room x", "rooms 3"],
            2: ["seed", "seed x", "seed 7 7", "seed -7", "sead 7"],
            3: ["coin whole 0", "coin whole x no", "coin whole 0 maybe", "coin 4 0 1 yes", "coin 0 4 1 yes no", "coins whole 0 no"],
            5: ["fact 2 4 0 3", "fact 2 9 0 1", "fact 4 2 0", "fact 2", "fact 2 4 0 0", "fact 2 4 x", "facts 2 4 0 1"],
            7: ["write 3", "write 8 a", "write 3 c", "write x a", "write 3 a a", "write -3 a", "write 03 a", "write 3 ab", "write 3 A",
                "write 3 a ;", "writes 3 a"],
            9: ["model 3", "model ;", "model model", "model x # y"],
            10: ["table 0 1 2 ; 1 2 2", "table", "table 0 1 2 ; 1 2 2 ; 2 2 3", "tables 0"],
            12: ["letter a 1", "letter b 3", "letter b", "letter B 1"],
            13: ["begin 1", "begin 1000001 0", "begin 1 x"][1:], 14: ["end 1", "end 1 1 1", "end"],
            16: ["arc 0 b 1 0", "arc 0 c 1 1", "arc 0 b 2 1", "arc 0 a 0 3", "arc", "length 8", "model", "fact 0 1 0", "write 1 a"],
        }
        for at, others in bad.items():
            for other in others:
                self.assertEqual(told(self.with_line(at, other)), at, other)
        self.assertEqual(told(self.with_line(6, "fact 2 4 1")), 6)
        self.assertEqual(told(self.with_line(6, "fact 3 6 1")), 6)
        self.assertEqual(told(self.with_line(4, "coin whole 0 yes")), 4)
        self.assertEqual(told(self.with_line(8, "write 3 b")), 8)
        self.assertEqual(told(self.with_line(13, "begin 1")), 14)
        for word in ("", "   ", "# x", " # length 3"):
            self.assertEqual(told(self.with_line(5, word)), None)

    def test_lines_missing(self):
        many = len(LINES)
        self.assertEqual(told([]), 1)
        self.assertEqual(told(["", "# nothing", ""]), 3)
        for at in (0, 1, 10):
            # The rest of a MODEL without its `table` is bad, but not what stands behind no `length`, or no `room`.
            self.assertEqual(told(LINES[:at] + LINES[at + 1:]), many - 1 if at < 9 else 10, at)
        self.assertEqual(told(LINES[2:]), many - 2)
        self.assertEqual(told(LINES[:2] + LINES[5:]), many - 3)
        # Without `seed` it is the first `coin`, without `model` the first line of the MODEL.
        self.assertEqual(told(LINES[:2] + LINES[3:]), 2)
        self.assertEqual(told(LINES[:9] + LINES[10:]), 9)
        self.assertEqual(told(LINES[:9]), 9)
        self.assertEqual(told(LINES[:10]), 10)
        self.assertEqual(told(LINES[:10] + ["", "#"]), 12)
        self.assertEqual(told(LINES[:13]), 13)
        self.assertEqual(told(LINES[:14]), 14)
        self.assertEqual(told(LINES[:15]), ("NoRow", {}))
        self.assertEqual(told(LINES[:11] + LINES[13:]), 11)
        self.assertEqual(told(LINES[:11]), 11)
        # `fact`, `coin`, `write` and `arc` lines need not be there.
        self.assertEqual(told(LINES[:3] + LINES[9:]), None)

    def test_lines_out_of_their_order(self):
        for at in range(9):
            for later in range(at + 1, 9):
                lines = LINES[:at] + LINES[at + 1:later + 1] + LINES[at:at + 1] + LINES[later + 1:]
                first, last = LINES[at].split(" ")[0], LINES[later].split(" ")[0]
                if first == last:
                    self.assertIsNone(told(lines))
                elif first == "seed" and LINES[at + 1].split(" ")[0] == "coin":
                    self.assertEqual(told(lines), at)
                else:
                    # The line that was put behind stands where it may not.
                    self.assertEqual(told(lines), later)
        self.assertEqual(told(["room 3", "length 8"] + LINES[2:]), 1)
        self.assertEqual(told(LINES[:1] + ["length 8"] + LINES[1:]), 1)
        self.assertEqual(told(LINES[:2] + ["room 3"] + LINES[2:]), 2)
        self.assertEqual(told(LINES[:2] + ["length 8"] + LINES[2:]), 2)
        self.assertEqual(told(LINES[:5] + ["seed 7"] + LINES[5:]), 5)
        self.assertEqual(told(LINES[:6] + ["seed 7"] + LINES[6:]), 6)
        self.assertEqual(told(LINES[:8] + ["fact 6 8 1"] + LINES[8:]), 8)
        self.assertEqual(told(LINES + ["write 1 a"]), len(LINES))
        self.assertEqual(told(LINES + ["model"]), len(LINES))
        self.assertEqual(told(LINES[:9] + ["table 0"] + LINES[9:]), 9)

    def test_facts_and_writes_are_not_looked_at_without_a_right_model_and_length(self):
        wrong = LINES[:5] + ["fact x", "fact 0 99 9", "write", "write 99 q"] + LINES[9:]
        self.assertEqual(told(wrong), 5)
        self.assertEqual(told(wrong[:16] + ["arc 0 c 0 1"] + wrong[17:]), 16)
        self.assertEqual(told(wrong[:14]), 14)
        self.assertEqual(told(["length x"] + wrong[1:]), 0)
        self.assertEqual(told(wrong[1:]), len(wrong) - 1)
        # Their first words are looked at all the same.
        self.assertEqual(told(wrong[1:7] + ["fakt"] + wrong[7:]), 6)
        self.assertEqual(told(wrong[:8] + ["fact 0 1 0"] + wrong[8:14]), 8)
        # That `room` lacks, or is bad, does not keep them from being looked at; nor that COINS are.
        self.assertEqual(told(wrong[:1] + wrong[2:]), 4)
        self.assertEqual(told(wrong[:1] + ["room x"] + wrong[2:]), 1)
        self.assertEqual(told(wrong[:2] + wrong[5:]), 2)
        self.assertEqual(told(LINES[:7] + ["write 99 a"] + LINES[8:]), 7)
        # Of two lengths the first one tells how many places there are.
        self.assertEqual(told(["length 5", "length 8"] + LINES[1:]), 1)

    def test_two_bad_lines(self):
        wrong = {0: "length x", 1: "room x", 2: "seed x", 3: "coin", 5: "fact 0 9 1", 7: "write 9 a", 11: "letter a 7", 15: "arc 0 a 0 0"}
        for at in wrong:
            for later in wrong:
                if at < later:
                    lines = self.with_line(at, wrong[at])
                    lines[later] = wrong[later]
                    expected = at
                    if later > 9 and at in (5, 7):
                        expected = later
                    self.assertEqual(told(lines), expected, (at, later))
        # A `fact` line and a `write` line, the MODEL being right.
        self.assertEqual(told(LINES[:5] + ["fact 0 9 1"] + LINES[6:7] + ["write 9 a"] + LINES[8:]), 5)

    def test_too_many_then_no_row(self):
        table = " ; ".join([" ".join([str(x) for x in row]) for row in COUNT8[0]])
        model = ["model", f"table {table}", "letter a 0", "letter b 1", "begin 1", "end 1", "arc 0 a 0 1", "arc 0 b 0 1"]
        for many in (8, 9, 12):
            facts = [f"fact {2 * k} {2 * k + 2} 0" for k in range(many)]
            lines = ["length 50", "room 0", "seed 0"] + facts + model
            self.assertEqual(told(lines), None if many == 8 else ("TooMany", {"most": 8}))
            lines[3] = "fact 0 2 7"
            self.assertEqual(told(lines), ("NoRow", {}) if many == 8 else ("TooMany", {"most": 8}))
            lines[3] = "fact 0 2 8"
            self.assertEqual(told(lines), 3)
            lines[3] = "fact 0 2"
            lines[-3] = "end 0"
            self.assertEqual(told(lines), ("NoRow", {}) if many == 8 else ("TooMany", {"most": 8}))
        for model, n in ((DEAD, 3), (EVEN, 3), (EVEN, FAR - 1)):
            lines = [f"length {n}", "room 0", "seed 0", "model", show_model(model)]
            self.assertEqual(told(lines), ("NoRow", {}))
            self.assertEqual(told([lines[0], "fact 0 2"] + lines[1:]), 2)
        self.assertIsNone(told([f"length {FAR}", "room 0", "seed 0", "model", show_model(EVEN)]))
        lines = ["length 4", "room 0", "seed 0", "fact 0 4 1", "model", show_model((PARITY, (1,), (1,), ((0, "a", 0, 1),)))]
        self.assertEqual(told(lines), ("NoRow", {}))

    def test_wrong_arguments(self):
        for thing in any_values():
            if not isinstance(thing, str):
                self.assertEqual(raised(read_house, thing), ("Wrong", {"place": 0}))
            else:
                self.assertEqual(raised(read_house, thing)[0], "NoText")

    def test_changed_by_chance(self):
        chance = random.Random(3)
        words = ["length 8", "room", "seed 3", "coin 0 1 0 yes", "fact 0 2 1", "fact 1 3 0", "write 2 a", "write 9 a", "model", "table 0",
                 "letter c 0", "begin 1 0", "end 1 1", "arc 0 a 0 3", "#", "", "x", "fact 7 9 1", "write 2 b", "length 0", "room x"]
        met = {}
        for _ in range(3000):
            lines = list(LINES)
            for _ in range(chance.randint(1, 4)):
                at = chance.randrange(len(lines))
                do = chance.randrange(5)
                if do == 0:
                    del lines[at]
                elif do == 1:
                    lines.insert(at, chance.choice(words))
                elif do == 2:
                    lines[at] = chance.choice(words)
                elif do == 3:
                    its = lines[at].split(" ")
                    its[chance.randrange(len(its))] = chance.choice(("0", "1", "9", "a", "x", "", "2 2"))
                    lines[at] = " ".join(its)
                else:
                    other = chance.randrange(len(lines))
                    lines[at], lines[other] = lines[other], lines[at]
            found = told(lines)
            self.assertEqual(found, plain_told(lines), lines)
            kind = "none" if found is None else "line" if type(found) is int else found[0]
            met[kind] = met.get(kind, 0) + 1
        self.assertGreater(min(met["none"], met["line"]), 100)
        self.assertEqual(len(met), 3)


def words_of(line):
    return line.partition("#")[0].replace(";", " ; ").split()


def refused(call, *arguments):
    """Return what a reader returns, and the line that it refuses."""
    try:
        return call(*arguments), None
    except NoText as error:
        return None, error.line


def plain_told(lines):
    """Return what `told` does: the bounds between the sections are sought first, then each line is looked at."""
    first_words = [(words_of(line) or [""])[0] for line in lines]
    mark = None
    ranks = {"length": 0, "room": 1, "seed": 2, "coin": 2, "fact": 3, "write": 4, "model": 5}
    rank, bad, kept = -1, [], {}
    for at, word in enumerate(first_words):
        if word == "":
            continue
        its = ranks.get(word)
        if its is None or its < rank or (its == rank and its in (0, 1)):
            bad.append(at)
            continue
        rank = its
        kept.setdefault(its, []).append(at)
        if its == 5:
            mark = at
            break
    alone = lambda which: "\n".join([line if at in which else "" for at, line in enumerate(lines)])
    n = None
    for rank, low in ((0, 1), (1, 0)):
        if rank not in kept:
            bad.append(len(lines))
            continue
        its = words_of(lines[kept[rank][0]])
        number = int(its[1]) if len(its) == 2 and its[1].isdigit() else -1
        if number < low or str(number) != its[-1]:
            bad.append(kept[rank][0])
        elif rank == 0:
            n = number
    bad.append(refused(read_coins, alone(kept.get(2, [])))[1])
    if mark is not None and len(words_of(lines[mark])) > 1:
        bad.append(mark)
    model, line = refused(read_model, alone([] if mark is None else range(mark + 1, len(lines))))
    bad.append(line)
    facts = ()
    if model is not None and n is not None:
        facts, line = refused(read_facts, model[0], n, alone(kept.get(3, [])))
        bad.append(line)
        places = []
        for at in kept.get(4, []):
            its = words_of(lines[at])
            if len(its) == 3 and its[1] in [str(x) for x in range(n)] and its[2] in [its for its, _ in model[0][1]]:
                if its[1] not in places:
                    places.append(its[1])
                    continue
            bad.append(at)
    bad = [line for line in bad if line is not None]
    if bad:
        return min(bad)
    if len(facts) > 8:
        return ("TooMany", {"most": 8})
    return None if total_under(model, n, facts) else ("NoRow", {})


if __name__ == "__main__":
    unittest.main()
