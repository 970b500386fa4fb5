"""Houses: a MODEL, a length and COINS, FACTS that are put and taken, LETTERS that are WRITTEN over the ROW."""

from unwrittenrow.asks import is_ask
from unwrittenrow.blocks import lot_at
from unwrittenrow.errors import Crossing, NoRow, NoText, NotThere, Nothing, TooMany, Wrong
from unwrittenrow.forms import MOST_PLACES, are_coins, are_facts, is_block, is_from, is_integer, is_model
from unwrittenrow.forms import is_same_value, is_tuple, is_within
from unwrittenrow.judging import is_paper
from unwrittenrow.makers import shown_by
from unwrittenrow.numerals import shown
from unwrittenrow.pieces import Parts
from unwrittenrow.sections import LENGTH, ROOM, HouseText, is_letter_of
from unwrittenrow.shower import show_coins, show_facts, show_model
from unwrittenrow.support import is_possible
from unwrittenrow.tables import tables_beside

BITS = 700
MOST_COINS = 400
MOST_FACTS = 8


class House:
    """What is asked of it hangs on its MODEL, length, COINS, FACTS and WRITTEN letters alone."""

    def __init__(self, model, n, coins, room):
        if not is_model(model):
            raise Wrong(0)
        if not is_within(n, 1, MOST_PLACES):
            raise Wrong(1)
        if not are_coins(coins):
            raise Wrong(2)
        if not is_from(room, 0):
            raise Wrong(3)
        if not is_possible(model, n, ()):
            raise NoRow()
        self._model = model
        self._length = n
        self._coins = coins
        self._room = room
        self._facts = ()
        self._written = {}
        # For each call that can be taken back: the FACTS ahead of it, and a place with what stood there.
        self._calls = []
        # TABLES of some KEYS, at most room of them.
        self._known = {}

    def __eq__(self, other):
        return (
            isinstance(other, House) and self._model == other._model and self._length == other._length
            and self._coins == other._coins and self._facts == other._facts and self._written == other._written
        )

    def model(self):
        """Return the MODEL."""
        return self._model

    def length(self):
        """Return the number of places."""
        return self._length

    def coins(self):
        """Return the COINS."""
        return self._coins

    def room(self):
        """Return the number of the KEYS that it may remember."""
        return self._room

    def facts(self):
        """Return the FACTS."""
        return self._facts

    def written(self):
        """Return the dict from the WRITTEN places, ascending, to their LETTERS."""
        return {x: self._written[x] for x in sorted(self._written)}

    def remembered(self):
        """Return the number of the KEYS that it remembers now."""
        return len(self._known)

    def put_fact(self, fact):
        """Put a FACT to those that are there."""
        measure = self._model[0]
        if not are_facts(measure, self._length, (fact,)):
            raise Wrong(0)
        facts = tuple(sorted(self._facts + (fact,)))
        if not are_facts(measure, self._length, facts):
            raise Crossing(fact)
        if len(facts) > MOST_FACTS:
            raise TooMany(MOST_FACTS)
        if not is_possible(self._model, self._length, facts):
            raise NoRow()
        self._calls.append((self._facts, None, None))
        self.have_facts(facts)

    def take_fact(self, block):
        """Take away the FACT of a BLOCK."""
        if not is_block(block):
            raise Wrong(0)
        if lot_at(self._facts, block) is None:
            raise NotThere(block)
        self._calls.append((self._facts, None, None))
        self.have_facts(tuple([fact for fact in self._facts if fact[:2] != block]))

    def have_facts(self, facts):
        """Keep other FACTS."""
        if facts != self._facts:
            # What is known of a BLOCK hangs on the FACTS in it, what is known of a number on none.
            self._known = {key: self._known[key] for key in self._known if is_integer(key)}
            self._facts = facts

    def write(self, x, letter):
        """Write a LETTER at a place."""
        if not is_within(x, 0, self._length - 1):
            raise Wrong(0)
        if not is_letter_of(self._model[0], letter):
            raise Wrong(1)
        self._calls.append((self._facts, x, self._written.get(x)))
        self._written[x] = letter

    def erase(self, x):
        """Take away the WRITTEN letter at a place."""
        if not is_within(x, 0, self._length - 1):
            raise Wrong(0)
        if x not in self._written:
            raise NotThere(x)
        self._calls.append((self._facts, x, self._written[x]))
        del self._written[x]

    def undo(self):
        """Take back the last call that put, took, wrote or erased something."""
        if not self._calls:
            raise Nothing()
        facts, x, letter = self._calls.pop()
        self.have_facts(facts)
        if letter is not None:
            self._written[x] = letter
        elif x is not None:
            del self._written[x]

    def ask(self, question):
        """Return the answer of the OPEN ROW to a question."""
        if not is_ask(self._model[0], self._length, question):
            raise Wrong(0)
        parts, tables, _ = self.gone_through(question)
        if tables:
            self._known = {key: tables[key] for key in list(tables)[:self._room]}
        return parts.answer()

    def gone_through(self, question):
        """Return the Parts of a question, all told, the TABLES that tell them, and (part, answer, steps) of each."""
        model, n, facts = self._model, self._length, self._facts
        parts = Parts(model[0], self._written, question)
        tables = {} if parts.part is None else tables_beside(model, facts, [(0, n)], BITS, self._known)
        told = []
        while parts.part is not None:
            part = parts.part
            answer, steps = shown_by(model, n, facts, self._coins, part, tables, MOST_COINS)
            told.append((part, answer, steps))
            parts.take(answer)
        return (parts, tables, told)

    def twin(self):
        """Return an independent house in the same state."""
        house = House(self._model, self._length, self._coins, self._room)
        house.be_as(self._facts, self._written, self._calls)
        house.remember(self._known)
        return house

    def be_as(self, facts, written, calls):
        """Keep FACTS, WRITTEN letters, and what can be taken back."""
        self._facts = facts
        self._written = {x: written[x] for x in written}
        self._calls = list(calls)

    def remember(self, known):
        """Keep TABLES of some KEYS, which nobody changes."""
        self._known = {key: known[key] for key in known}


def parts_of(house, question):
    """Return the tuple of the ASKS of the ROW beneath of which an answer of the OPEN ROW comes."""
    return tuple([part for part, _, _ in house.gone_through(question)[2]])


def papers_of(house, question):
    """Return the tuple of the tuples (ask, answer, PAPER) of the parts of a question."""
    _, tables, told = house.gone_through(question)
    return tuple([(part, answer, (_copied(tables), steps)) for part, answer, steps in told])


def _copied(tables):
    """Return TABLES made anew, as the caller may change them."""
    return {key: {stand: table[stand] for stand in table} for key, table in tables.items()}


def are_papers(model, n, facts, coins, written, question, answer, thing):
    """Tell whether any value is tuples (ask, answer, PAPER) that show an answer of the OPEN ROW, any value too."""
    if not isinstance(thing, tuple):
        return False
    parts = Parts(model[0], written, question)
    for item in thing:
        if not (is_tuple(item, 3, 3) and is_same_value(item[0], parts.part)):
            return False
        # No part is left if it is None, and None is no ASK either.
        if parts.part is None or not is_paper(model, n, facts, coins, parts.part, item[1], item[2]):
            return False
        parts.take(item[1])
    return parts.part is None and is_same_value(parts.answer(), answer)


def show_house(house):
    """Return the text that shows a house."""
    lines = ["length " + shown(house.length()), "room " + shown(house.room()), show_coins(house.coins())]
    if house.facts():
        lines.append(show_facts(house.facts()))
    lines.extend([f"write {shown(x)} {letter}" for x, letter in house.written().items()])
    return "\n".join(lines + ["model", show_model(house.model())])


def read_house(text):
    """Return the house that a text shows."""
    if not isinstance(text, str):
        raise Wrong(0)
    lines = HouseText(text)
    n, room = lines.number_told(LENGTH, 1), lines.number_told(ROOM, 0)
    coins, model = lines.coins_told(), lines.model_told()
    facts, written = (), {}
    if n is not None and model is not None:
        facts, written = lines.facts_told(model[0], n), lines.letters_told(model[0], n)
    if lines.bad:
        raise NoText(min(lines.bad))
    if len(facts) > MOST_FACTS:
        raise TooMany(MOST_FACTS)
    house = House(model, n, coins, room)
    if not is_possible(model, n, facts):
        raise NoRow()
    house.be_as(facts, written, [])
    return house
