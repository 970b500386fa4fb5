"""A desk: a house led by lines."""

from unwrittenrow.asks import is_ask
from unwrittenrow.chances import chance_between
from unwrittenrow.errors import NoCommand, Wrong
from unwrittenrow.forms import are_facts, is_block, is_within
from unwrittenrow.fractions import decimal_above, decimal_below
from unwrittenrow.house import House, papers_of, show_house
from unwrittenrow.numerals import number_in, numbers_in, shown
from unwrittenrow.sections import is_letter_of
from unwrittenrow.shower import in_a_row
from unwrittenrow.support import members_at

MOST_DIGITS = 61
MOST_POWER = 200
BITS = 128
DIGITS = 40
PLACES = 10


class Desk:
    """A twin of a house, led by lines."""

    def __init__(self, house):
        if not isinstance(house, House):
            raise Wrong(0)
        self._house = house.twin()

    def __eq__(self, other):
        return isinstance(other, Desk) and self._house == other._house

    def execute(self, line):
        """Do what a line says, and return the list of strings that answers it."""
        if not isinstance(line, str):
            raise Wrong(0)
        words = [word for word in line.split(" ") if word != ""]
        if "\n" in line or not words or words[0] not in COMMANDS:
            raise NoCommand()
        command = COMMANDS[words[0]]
        return command(self._house, words)

    def house(self):
        """Return a twin of the house."""
        return self._house.twin()

    def twin(self):
        """Return an independent desk in the same state."""
        return Desk(self._house)


def _asked(house, words):
    answer = house.ask(_question_in(house, words))
    if answer is None:
        return ["none"]
    return [answer if isinstance(answer, str) else shown(answer)]


def _question_in(house, words):
    """Return the ASK that words tell."""
    places = _places_in(words[1:3])
    question = tuple(words[:1]) + places + tuple(words[3:])
    if words[:1] == ["first"] or words[:1] == ["last"]:
        question = tuple(words[:1]) + places + (numbers_in(words[3:]),)
    if not is_ask(house.model()[0], house.length(), question):
        raise NoCommand()
    return question


def _papers(house, words):
    told = papers_of(house, _question_in(house, words[1:]))
    return [in_a_row((len(tables), len(steps))) for _, _, (tables, steps) in told]


def _fact(house, words):
    fact = _places_in(words[1:3]) + (numbers_in(words[3:]),)
    if not are_facts(house.model()[0], house.length(), (fact,)):
        raise NoCommand()
    house.put_fact(fact)
    return ["done"]


def _unfact(house, words):
    house.take_fact(_block_in(house, words))
    return ["done"]


def _block_in(house, words):
    """Return the BLOCK that all words but the first one tell."""
    block = _places_in(words[1:])
    if not is_block(block) or block[1] > house.length():
        raise NoCommand()
    return block


def _write(house, words):
    if len(words) != 3 or not is_letter_of(house.model()[0], words[2]):
        raise NoCommand()
    house.write(_place_in(house, words[:2]), words[2])
    return ["done"]


def _erase(house, words):
    house.erase(_place_in(house, words))
    return ["done"]


def _place_in(house, words):
    """Return the place that the word behind the first one tells, if there is no other one."""
    places = _places_in(words[1:])
    if len(places) != 1 or not is_within(places[0], 0, house.length() - 1):
        raise NoCommand()
    return places[0]


def _undo(house, words):
    _ask_for_one(words)
    house.undo()
    return ["done"]


def _facts(house, words):
    _ask_for_one(words)
    return [in_a_row((i, j) + lot) for i, j, lot in house.facts()]


def _written(house, words):
    _ask_for_one(words)
    return [f"{shown(x)} {letter}" for x, letter in house.written().items()]


def _can(house, words):
    i, j = _block_in(house, words)
    return [shown(x) for x in members_at(house.model(), house.length(), house.facts(), i, j)]


def _chance(house, words):
    _ask_for_one(words)
    least, most = chance_between(house.model(), house.length(), house.facts(), BITS, DIGITS)
    return [decimal_below(least, PLACES), decimal_above(most, PLACES)]


def _show(house, words):
    _ask_for_one(words)
    return show_house(house).split("\n")


def _ask_for_one(words):
    """Raise an error if there is more than one word."""
    if len(words) > 1:
        raise NoCommand()


def _places_in(words):
    """Return the tuple of the integers that words tell, `None` for a word that tells none."""
    return tuple([_number_told(word) for word in words])


def _number_told(word):
    """Return the integer from 0 on that a word tells, perhaps with a power or a sign, or `None`."""
    for sign in ("+", "-"):
        if sign in word:
            ahead, _, behind = word.partition(sign)
            number, more = _simply_told(ahead), _short_number_in(behind)
            if number is None or more is None:
                return None
            number = number + more if sign == "+" else number - more
            return number if number >= 0 else None
    return _simply_told(word)


def _simply_told(word):
    """Return the integer that a word without a sign tells, or `None`."""
    if not word.startswith("2^"):
        return _short_number_in(word)
    power = number_in(word[2:])
    return 1 << power if is_within(power, 0, MOST_POWER) else None


def _short_number_in(word):
    """Return the integer of few digits that a word shows, or `None`."""
    return number_in(word) if len(word) <= MOST_DIGITS else None


COMMANDS = {
    "letter": _asked, "letters": _asked, "measure": _asked, "first": _asked, "last": _asked, "papers": _papers,
    "fact": _fact, "unfact": _unfact, "write": _write, "erase": _erase, "undo": _undo, "facts": _facts,
    "written": _written, "can": _can, "chance": _chance, "show": _show,
}
