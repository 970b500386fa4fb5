"""What several tests need: values of any kind, changed things, WORDS, MEASURES, MODELS, FACTS."""

import copy
import itertools
import random
import re

from unwrittenrow.desk import Desk
from unwrittenrow.errors import NoRow, NoText, RowError, Wrong
from unwrittenrow.house import House


def deep(depth):
    thing = ()
    for at in range(depth):
        thing = (thing,) if at % 2 else [thing]
    return thing


def any_values():
    """Return values of all kinds that a caller may pass where any value is taken."""
    house = House(((((0,),), (("a", 0),)), (1,), (1,), ((0, "a", 0, 1),)), 5, (0, ()), 0)
    return [
        house, Desk(house), (house,), [house], (house, 0), (0, house, ()), {0: house}, ((house,),),
        None, True, False, 0, 1, -1, 2, 7, 8, 10 ** 6, 10 ** 6 + 1, 10 ** 199, -(10 ** 199),
        "", "a", "b", "z", "A", "ab", "aB", "a b", " ", "~", "0", "\n", "a" * 3000, "{", "`",
        (), (0,), (1,), (True,), (0, 1), (1, 2), (1, 1), (0, 0), ("a", 0), ("a",), ((),), ((), ()),
        ((0,),), (((0,),), (("a", 0),)), (0, ()), (0, 0, 0), (0, 1, ()), ((0, 1, ()),), (0, 1, 2, 3),
        ("a", "b"), (None, None), (None,) * 3, (None,) * 4, tuple(range(3000)),
        [], [0], [[]], [0, 1], ["a", 0], [(0, 1)], {}, {0: 1}, {"a": "b"}, {(): ()}, {(0, 1): [0]},
        {"a": {"b": [{}, ((1,), [True])]}}, deep(19), [deep(18), deep(17)],
        Wrong(0), NoText([0]), NoRow(), RowError("a"), (Wrong(0), Wrong(1)), [NoRow()],
    ]


def changed(thing):
    """Return the same thing otherwise in one place, in many ways and at each depth."""
    out = []
    if isinstance(thing, bool):
        out.extend([int(thing), None, not thing, "yes"])
    elif isinstance(thing, int):
        out.extend([thing == 1, thing + 1, thing - 1, -1, str(thing), None, (thing,), [thing]])
        out.extend([True, False, 10 ** 6, 10 ** 6 + 1, 8])
    elif isinstance(thing, str):
        out.extend([thing + "a", thing + "z", thing.upper(), thing[1:], list(thing), 0, None, "{"])
    elif isinstance(thing, tuple):
        out.extend([list(thing), thing[::-1], thing + (0,), thing + ((),), thing + thing[-1:]])
        out.append(dict.fromkeys(range(len(thing)), 0))
        for at, item in enumerate(thing):
            out.append(thing[:at] + thing[at + 1:])
            out.append(thing[:at] + (item,) + thing[at:])
            out.extend([thing[:at] + (other,) + thing[at + 1:] for other in changed(item)])
    return out


def exchanged(thing, old, new):
    """Return, for each place at any depth where something of one kind stands, the thing with new(it)."""
    out = [new(thing)] if type(thing) is old else []
    if type(thing) is tuple:
        for at, item in enumerate(thing):
            out.extend([thing[:at] + (other,) + thing[at + 1:] for other in exchanged(item, old, new)])
    return out


def truths_for_numbers(thing):
    """Return the thing with a truth in the place of each integer, once each."""
    return exchanged(thing, int, lambda number: number == 1)


def lists_for_tuples(thing):
    """Return the thing with a list in the place of each tuple, once each."""
    return exchanged(thing, tuple, list)


def words_of_length(letters, n):
    return ["".join(word) for word in itertools.product(letters, repeat=n)]


def words_up_to(letters, n):
    return [word for many in range(n + 1) for word in words_of_length(letters, many)]


# MEASURES that the tests name.

PARITY = (((0, 1), (1, 0)), (("a", 0), ("b", 1)))
ONE = (((0,),), (("a", 0), ("b", 0)))
CAP = (((0, 1, 2), (1, 2, 2), (2, 2, 2)), (("a", 0), ("b", 1)))
# x * y is x but for x = 0, so x * y is not y * x.
FIRSTS = (((0, 1, 2), (1, 1, 1), (2, 2, 2)), (("a", 1), ("b", 2)))
# The other way about: x * y is y but for y = 0.
LASTS = (((0, 1, 2), (1, 1, 2), (2, 1, 2)), (("a", 1), ("b", 2)))
# A MEMBER that no WORD has.
LONELY = (((0, 1, 2), (1, 1, 2), (2, 2, 2)), (("a", 0), ("b", 2)))


def table_of(maps):
    """Return the table of all products of maps, and the members of the maps; `None` if there are many."""
    size = len(maps[0])
    found = [tuple(range(size))]
    for one in found:
        for other in maps:
            both = tuple([other[at] for at in one])
            if both not in found:
                found.append(both)
        if len(found) > 8:
            return None
    table = tuple([tuple([found.index(tuple([y[at] for at in x])) for y in found]) for x in found])
    return table, [found.index(one) for one in maps]


def renumbered(measure, order):
    """Return the MEASURE in which the MEMBER x is called order[x]."""
    table, values = measure
    many = len(table)
    old = [order.index(x) for x in range(many)]
    return (
        tuple([tuple([order[table[old[x]][old[y]]] for y in range(many)]) for x in range(many)]),
        tuple([(letter, order[x]) for letter, x in values]),
    )


def some_measures(seed, many, letters="ab"):
    """Return MEASURES made by chance of a seed, with some MEMBERS that no WORD has."""
    chance = random.Random(seed)
    found = []
    while len(found) < many:
        size = chance.randint(1, 4)
        maps = [tuple([chance.randrange(size) for _ in range(size)]) for _ in range(chance.randint(1, 3))]
        made = table_of(maps)
        if made is None:
            continue
        table, members = made
        values = tuple([(letter, chance.choice(members + [chance.randrange(len(table))])) for letter in letters])
        order = list(range(1, len(table)))
        chance.shuffle(order)
        found.append(renumbered((table, values), [0] + order))
    return found


def named_measures():
    cycle = tuple([tuple([(x + y) % 8 for y in range(8)]) for x in range(8)])
    return [
        PARITY, ONE, CAP, FIRSTS, LONELY,
        (cycle, (("a", 1), ("b", 7))), (cycle, (("a", 2), ("b", 4))),
        (((0,),), tuple([(letter, 0) for letter in "abcxyz"])),
    ]


def some_models(seed, many, measure=PARITY, states=3, most=4):
    """Return MODELS made by chance of a seed, some of their STATES being of no USE."""
    chance = random.Random(seed)
    letters = [letter for letter, _ in measure[1]]
    found = []
    for _ in range(many):
        s = chance.randint(1, states)
        arcs = [
            (p, letter, q, chance.randint(1, most))
            for p in range(s) for letter in letters for q in range(s) if chance.random() < 0.4
        ]
        begins = tuple([chance.choice((0, 1, 2)) for _ in range(s)])
        ends = tuple([chance.choice((0, 1, 3)) for _ in range(s)])
        found.append((measure, begins, ends, tuple(sorted(arcs))))
    return found


def some_wishes(seed, many, letters="ab", spots=4):
    """Return WISHES made by chance of a seed."""
    chance = random.Random(seed)
    found = []
    for _ in range(many):
        s = chance.randint(1, spots)
        steps = tuple([tuple([(letter, chance.randrange(s)) for letter in letters]) for _ in range(s)])
        found.append((steps, tuple([spot for spot in range(s) if chance.random() < 0.5])))
    return found


def walks(model, word):
    """Yield (p, q, price) of each WALK of a WORD, one by one."""
    def on(p, rest, price):
        if rest == "":
            yield p, price
            return
        for start, letter, q, w in model[3]:
            if start == p and letter == rest[0]:
                yield from on(q, rest[1:], price * w)

    for p in range(len(model[1])):
        for q, price in on(p, word, 1):
            yield p, q, price


def weight_by_walks(model, word):
    return sum(model[1][p] * price * model[2][q] for p, q, price in walks(model, word))


def weights_by_walks(model, letters, n):
    """Return the dict from all WORDS of at most n LETTERS to their WEIGHTS, gone through one by one."""
    return {word: weight_by_walks(model, word) for word in words_up_to(letters, n)}


def places_in(block):
    return set(range(block[0], block[1]))


def cross(one, other):
    """Tell by their places whether two BLOCKS CROSS."""
    mine, its = places_in(one), places_in(other)
    return bool(mine & its) and not mine <= its and not its <= mine


def some_facts(chance, measure, n, most, empty=0.1):
    """Return FACTS for n made by chance; some lots are () or all."""
    facts = []
    for _ in range(chance.randint(0, most)):
        i = chance.randrange(n)
        j = min(n, i + chance.choice((1, 2, 3, n)))
        members = range(len(measure[0]))
        lot = tuple([x for x in members if chance.random() < 0.6])
        if chance.random() < 0.15:
            lot = tuple(members)
        if lot == () and chance.random() > empty:
            lot = (chance.choice(members),)
        if not any(cross((i, j), fact[:2]) or (i, j) == fact[:2] for fact in facts):
            facts.append((i, j, lot))
    return tuple(sorted(facts))


def moved_along(facts, far):
    """Return FACTS with each place so much further on."""
    return tuple([(i + far, j + far, lot) for i, j, lot in facts])


def measure_by_table(measure, word):
    members = dict(measure[1])
    x = 0
    for letter in word:
        x = measure[0][x][members[letter]]
    return x


def meets(measure, word, facts):
    """Tell whether a WORD MEETS FACTS."""
    return all(measure_by_table(measure, word[i:j]) in lot for i, j, lot in facts)


def swept(model, n, facts, begins=None, stretch=(0, 0), arcs_at=None):
    """Return the dict from (q, m), m being the MEASURE of the stretch, to the PRICES together.

    It goes through the places from left to right, with the MEASURES of all FACTS that are
    begun; begins takes the place of that of the MODEL. arcs_at(x, arc) tells which arcs may be
    taken at a place.
    """
    (table, values), own_begins, _, arcs = model
    members = dict(values)
    begins = own_begins if begins is None else begins
    sums = {(p, 0, ()): begin for p, begin in enumerate(begins) if begin}
    for x in range(n):
        later = {}
        for (p, m, begun), price in sums.items():
            begun = begun + tuple([(fact, 0) for fact in facts if fact[0] == x])
            for arc in arcs:
                if arc[0] != p or (arcs_at is not None and not arcs_at(x, arc)):
                    continue
                y = members[arc[1]]
                told = [(fact, table[z][y]) for fact, z in begun]
                if any(fact[1] == x + 1 and z not in fact[2] for fact, z in told):
                    continue
                state = (
                    arc[2], table[m][y] if stretch[0] <= x < stretch[1] else m,
                    tuple([(fact, z) for fact, z in told if fact[1] > x + 1]),
                )
                later[state] = later.get(state, 0) + price * arc[3]
        sums = later
    return {(q, m): price for (q, m, _), price in sums.items()}


def swept_weights(model, places, facts):
    """Return V of the BLOCK (0, places) under FACTS, from left to right."""
    found = {}
    for p in range(len(model[1])):
        begins = [int(q == p) for q in range(len(model[1]))]
        for (q, m), price in swept(model, places, facts, begins, (0, places)).items():
            found[(p, q, m)] = price
    return found


def leaves_alone(test, call, *arguments):
    """Return what a call returns, having seen that it left its arguments as they were."""
    before = copy.deepcopy(arguments)
    result = call(*arguments)
    test.assertEqual(without_addresses(before), without_addresses(arguments))
    return result


def without_addresses(thing):
    """Return the repr of a thing, objects in it without where they are."""
    return re.sub(" at 0x[0-9a-f]+>", ">", repr(thing))
