"""The ROW by the words of the document, for short rows: V by all WORDS and WALKS, one by one.

Nothing of the package is used here but its errors.
"""

from tests.helpers import measure_by_table, meets, moved_along, walks, words_of_length
from tests.test_coins import plain_coin
from unwrittenrow.errors import NoRow, TooClose


def plain_halves(facts, block):
    i, j = block
    inner = [(a, b) for a, b, _ in facts if i <= a and b <= j and (a, b) != block]
    if inner:
        a = min(a for a, _ in inner)
        b = max(b for its, b in inner if its == a)
        middle = a if a != i else b
    else:
        step = 1
        while 2 * step < j - i:
            step *= 2
        middle = i + step
    return (i, middle), (middle, j)


def plain_tree(n, facts):
    def below(block):
        if block[1] - block[0] == 1:
            return [block]
        first, second = plain_halves(facts, block)
        return [block] + below(first) + below(second)

    return below((0, n))


def plain_weights(model, facts, block):
    """Return V of a BLOCK by all WORDS and WALKS."""
    i, j = block
    inner = moved_along([fact for fact in facts if i <= fact[0] and fact[1] <= j], -i)
    found = {}
    for word in words_of_length([letter for letter, _ in model[0][1]], j - i):
        if meets(model[0], word, inner):
            m = measure_by_table(model[0], word)
            for p, q, price in walks(model, word):
                found[(p, q, m)] = found.get((p, q, m), 0) + price
    return found


def plain_made(shares, coins, name, most):
    """Return the (index, d) of what is MADE, with the least d, or `None`."""
    total, c = sum(shares), 0
    for d in range(most + 1):
        for index in range(len(shares)):
            low = sum(shares[:index])
            if low * 2 ** d <= c * total and (c + 1) * total <= (low + shares[index]) * 2 ** d:
                return index, d
        c = 2 * c + plain_coin(coins, name, d)
    return None


class PlainRow:
    """A ROW, its CHOICES asked in any order; most is the greatest number of COINS."""

    def __init__(self, model, n, facts, coins, most):
        self.model, self.n, self.facts, self.coins, self.most = model, n, facts, coins, most
        self.v = {}
        self.steps = []

    def weights(self, block):
        key = block
        if key not in self.v:
            self.v[key] = plain_weights(self.model, self.facts, block)
        return self.v[key]

    def things(self, name, stand=None):
        """Return the list of the tuples (THING, SHARE)."""
        measure, begins, ends, arcs = self.model
        if name == ():
            v = self.weights((0, self.n))
            found = [((p, q, m), begins[p] * v[(p, q, m)] * ends[q]) for p, q, m in v]
        elif name[1] - name[0] == 1:
            p, q, m = stand
            members = dict(measure[1])
            found = [(arc[1], arc[3]) for arc in arcs if (arc[0], arc[2], members[arc[1]]) == (p, q, m)]
        else:
            p, q, m = stand
            first, second = [self.weights(half) for half in plain_halves(self.facts, name)]
            found = [
                ((r, x, y), first[(p, r, x)] * second[(r, q, y)])
                for its, r, x in first if its == p
                for rr, end, y in second if (rr, end) == (r, q) and measure[0][x][y] == m
            ]
        return sorted([(thing, share) for thing, share in found if share > 0])

    def make(self, name, stand=None):
        """OPEN a NAME, and return the THING that is MADE."""
        things = self.things(name, stand)
        if not things:
            raise NoRow()
        made = plain_made([share for _, share in things], self.coins, name, self.most)
        if made is None:
            raise TooClose(name)
        self.steps.append((name, made[1], things[made[0]][0]))
        return things[made[0]][0]

    def stands_of_halves(self, block, stand):
        r, x, y = self.make(block, stand)
        first, second = plain_halves(self.facts, block)
        return (first, (stand[0], r, x)), (second, (r, stand[1], y))

    def ask(self, ask):
        """Return the answer; what was OPENED is in steps."""
        self.steps = []
        kind = ask[0]
        i, j = (ask[1], ask[1] + 1) if kind == "letter" else ask[1:3]
        self.stretch = set(range(i, j))
        stand = self.make(())
        whole = (0, self.n)
        if kind in ("letter", "letters"):
            return self.letters(whole, stand)
        if kind == "measure":
            return self.measure(whole, stand)
        self.a, self.lot, self.place = 0, ask[3], None
        (self.first if kind == "first" else self.last)(whole, stand)
        return self.place

    def letters(self, block, stand):
        if not self.stretch & set(range(*block)):
            return ""
        if block[1] - block[0] == 1:
            return self.make(block, stand)
        return "".join(self.letters(*half) for half in self.stands_of_halves(block, stand))

    def measure(self, block, stand):
        places = set(range(*block))
        if not self.stretch & places:
            return 0
        if places <= self.stretch:
            return stand[2]
        first, second = self.stands_of_halves(block, stand)
        x = self.measure(*first)
        return self.model[0][0][x][self.measure(*second)]

    def first(self, block, stand):
        places = set(range(*block))
        if self.place is not None or not self.stretch & places:
            return
        if places <= self.stretch:
            met = self.model[0][0][self.a][stand[2]]
            if met not in self.lot:
                self.a = met
                return
            if len(places) == 1:
                self.place = block[0]
                return
        for half in self.stands_of_halves(block, stand):
            self.first(*half)

    def last(self, block, stand):
        places = set(range(*block))
        if self.place is not None or not self.stretch & places:
            return
        if places <= self.stretch:
            met = self.model[0][0][stand[2]][self.a]
            if met not in self.lot:
                self.a = met
                return
            if len(places) == 1:
                self.place = block[0]
                return
        for half in self.stands_of_halves(block, stand)[::-1]:
            self.last(*half)

    def stand_of(self, block):
        self.steps = []
        at, stand = (0, self.n), self.make(())
        while at != block:
            for half, its in self.stands_of_halves(at, stand):
                if half[0] <= block[0] and block[1] <= half[1]:
                    at, stand = half, its
                    break
        return stand


def plain_meaning(measure, word, ask):
    """Return what an ASK means for a WORD, reading it anew for each place."""
    kind = ask[0]
    if kind == "letter":
        return word[ask[1]]
    i, j = ask[1:3]
    if kind == "letters":
        return word[i:j]
    if kind == "measure":
        return measure_by_table(measure, word[i:j])
    if kind == "first":
        places = [x for x in range(i, j) if measure_by_table(measure, word[i:x + 1]) in ask[3]]
        return min(places, default=None)
    places = [x for x in range(i, j) if measure_by_table(measure, word[x:j]) in ask[3]]
    return max(places, default=None)


def ideals(measure, right):
    """Return all RIGHT IDEALS, or all LEFT IDEALS, of a MEASURE."""
    table = measure[0]
    many = range(len(table))
    lots = [tuple([x for x in many if bits >> x & 1]) for bits in range(2 ** len(table))]
    if right:
        return [lot for lot in lots if all(table[x][y] in lot for x in lot for y in many)]
    return [lot for lot in lots if all(table[y][x] in lot for x in lot for y in many)]


def all_asks(measure, n):
    """Return all ASKS for a short n."""
    asks = [("letter", x) for x in range(n)]
    for i in range(n + 1):
        for j in range(i, n + 1):
            asks.extend([("letters", i, j), ("measure", i, j)])
            asks.extend([("first", i, j, lot) for lot in ideals(measure, True)])
            asks.extend([("last", i, j, lot) for lot in ideals(measure, False)])
    return asks


class Unfit(Exception):
    pass


class PlainByThings(PlainRow):
    """What an ASK OPENS if given THINGS are MADE, one by one; nothing is asked of COINS."""

    def __init__(self, measure, n, facts, things):
        super().__init__((measure, (), (), ()), n, facts, None, None)
        self.given = list(things)

    def make(self, name, stand=None):
        if not self.given or self.given[0][0] != name:
            raise Unfit()
        thing = self.given.pop(0)[1]
        table, values = self.model[0]
        states, members = range(6), range(len(table))
        if name != () and name[1] - name[0] == 1:
            if (thing, stand[2]) not in values or type(thing) is not str:
                raise Unfit()
            return thing
        if type(thing) is not tuple or len(thing) != 3 or any(type(item) is not int for item in thing):
            raise Unfit()
        if name == () and not (thing[0] in states and thing[1] in states and thing[2] in members):
            raise Unfit()
        if name != () and not (thing[0] in states and thing[1] in members and thing[2] in members
                               and table[thing[1]][thing[2]] == stand[2]):
            raise Unfit()
        return thing


def plain_answer_by(measure, n, facts, ask, things):
    row = PlainByThings(measure, n, facts, things)
    try:
        answer = row.ask(ask)
    except Unfit:
        return None
    return None if row.given else (answer,)


def plain_shares_in(model, facts, tables, name, stand):
    """Return the tuples (THING, ENCLOSURE) by TABLES, as [29] tells them."""
    def table_of(block):
        inner = [fact for fact in facts if block[0] <= fact[0] and fact[1] <= block[1]]
        return tables[block if inner else block[1] - block[0]]

    (table, values), begins, ends, arcs = model
    found = []
    if name == ():
        for (p, q, m), (low, high, e) in table_of((0, stand)).items():
            if begins[p] and ends[q]:
                found.append(((p, q, m), (begins[p] * low * ends[q], begins[p] * high * ends[q], e)))
    elif name[1] - name[0] == 1:
        found = [(letter, (w, w, 0)) for p, letter, q, w in arcs if (p, q, dict(values)[letter]) == stand]
    else:
        first, second = [table_of(half) for half in plain_halves(facts, name)]
        for (p, r, x), one in first.items():
            for (s, q, y), other in second.items():
                if (p, q, table[x][y]) == stand and r == s:
                    found.append(((r, x, y), (one[0] * other[0], one[1] * other[1], one[2] + other[2])))
    return sorted(found)
