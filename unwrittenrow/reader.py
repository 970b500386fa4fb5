"""MODELS, FACTS and COINS read from texts."""

from unwrittenrow.errors import NoText, Wrong
from unwrittenrow.forms import MOST_LETTERS
from unwrittenrow.forms import are_facts, are_weights, is_across, is_arc, is_from, is_letter
from unwrittenrow.forms import is_measure, is_name, is_table
from unwrittenrow.numerals import number_in, numbers_in


def read_model(text):
    """Return the MODEL that a text shows."""
    if not isinstance(text, str):
        raise Wrong(0)
    draft = ModelDraft()
    for line, words in lines_with_words(text):
        if not draft.takes_line(words[0], words[1:]):
            raise NoText(line)
    if draft.ends is None:
        raise NoText(number_of_lines(text))
    return draft.as_model()


def read_facts(measure, n, text):
    """Return the FACTS for n, with LOTS of a MEASURE, that a text shows."""
    if not is_measure(measure):
        raise Wrong(0)
    if not is_from(n, 1):
        raise Wrong(1)
    if not isinstance(text, str):
        raise Wrong(2)
    facts = []
    for line, words in lines_with_words(text):
        fact = _fact_in(words)
        if not are_facts(measure, n, (fact,)):
            raise NoText(line)
        if any([fact[:2] == other[:2] or is_across(fact, other) for other in facts]):
            raise NoText(line)
        facts.append(fact)
    return tuple(sorted(facts))


def read_coins(text):
    """Return the COINS that a text shows."""
    if not isinstance(text, str):
        raise Wrong(0)
    draft = CoinsDraft()
    for line, words in lines_with_words(text):
        if not draft.takes_line(words[0], words[1:]):
            raise NoText(line)
    if draft.seed is None:
        raise NoText(number_of_lines(text))
    return draft.as_coins()


def lines_with_words(text):
    """Return the list of the tuples (index, words) of the lines that have words."""
    lines = [(line, _words_in(row)) for line, row in enumerate(text.split("\n"))]
    return [(line, words) for line, words in lines if words]


def _words_in(row):
    bare = row.partition("#")[0].replace(";", " ; ")
    return [word for word in bare.split(" ") if word != ""]


def number_of_lines(text):
    return text.count("\n") + 1


def _fact_in(words):
    """Return what a line tells as a FACT, or `None`. Its numbers may still be none of a FACT."""
    numbers = numbers_in(words[1:])
    if words[0] != "fact" or len(numbers) < 2 or None in numbers:
        return None
    return numbers[:2] + (tuple(sorted(numbers[2:])),)


class ModelDraft:
    """What the lines of a text have told of a MODEL so far; `None` for what they have not."""

    def __init__(self):
        self.table = None
        self.members = {}
        self.begins = None
        self.ends = None
        self.prices = {}

    def takes_line(self, first, rest):
        """Tell whether a line may stand here, and keep what it tells if so."""
        if first == "table":
            return self.takes_table(rest)
        if first == "letter":
            return self.takes_letter(rest)
        if first == "begin":
            return self.takes_begins(rest)
        if first == "end":
            return self.takes_ends(rest)
        return first == "arc" and self.takes_arc(rest)

    def takes_table(self, words):
        """Take the rows of the table."""
        rows = [[]]
        for word in words:
            if word == ";":
                rows.append([])
            else:
                rows[-1].append(word)
        table = tuple([numbers_in(row) for row in rows])
        if self.table is not None or not is_table(table):
            return False
        self.table = table
        return True

    def takes_letter(self, words):
        """Take a LETTER and its MEMBER."""
        if self.table is None or self.begins is not None or len(words) != 2:
            return False
        letter, member = words[0], number_in(words[1])
        if not is_letter(letter) or member not in range(len(self.table)):
            return False
        if letter in self.members or len(self.members) == MOST_LETTERS:
            return False
        self.members[letter] = member
        return True

    def takes_begins(self, words):
        """Take the begins of all STATES."""
        begins = numbers_in(words)
        if not self.members or self.begins is not None or not are_weights(begins):
            return False
        self.begins = begins
        return True

    def takes_ends(self, words):
        """Take the ends of all STATES."""
        ends = numbers_in(words)
        if self.begins is None or self.ends is not None or not are_weights(ends):
            return False
        if len(ends) != len(self.begins):
            return False
        self.ends = ends
        return True

    def takes_arc(self, words):
        """Take an arc."""
        if self.ends is None or len(words) != 4:
            return False
        p, letter, q, w = number_in(words[0]), words[1], number_in(words[2]), number_in(words[3])
        if not is_arc((p, letter, q, w), len(self.ends), list(self.members)):
            return False
        if (p, letter, q) in self.prices:
            return False
        self.prices[(p, letter, q)] = w
        return True

    def as_model(self):
        """Return the MODEL, all lines that it needs being taken."""
        values = tuple([(letter, self.members[letter]) for letter in sorted(self.members)])
        arcs = tuple([(p, letter, q, self.prices[(p, letter, q)]) for p, letter, q in sorted(self.prices)])
        return ((self.table, values), self.begins, self.ends, arcs)


class CoinsDraft:
    """What the lines of a text have told of COINS so far."""

    def __init__(self):
        self.seed = None
        self.truths = {}

    def takes_line(self, first, rest):
        """Tell whether a line may stand here, and keep what it tells if so."""
        if first == "seed":
            return self.takes_seed(rest)
        return first == "coin" and self.takes_coin(rest)

    def takes_seed(self, words):
        """Take the seed."""
        if self.seed is not None or len(words) != 1:
            return False
        self.seed = number_in(words[0])
        return self.seed is not None

    def takes_coin(self, words):
        """Take a told COIN."""
        if self.seed is None or len(words) < 3 or words[-1] not in ("yes", "no"):
            return False
        name = () if words[:-2] == ["whole"] else numbers_in(words[:-2])
        k = number_in(words[-2])
        if not is_name(name) or k is None or (name, k) in self.truths:
            return False
        self.truths[(name, k)] = words[-1] == "yes"
        return True

    def as_coins(self):
        """Return the COINS, the seed being taken."""
        told = tuple([(name, k, self.truths[(name, k)]) for name, k in sorted(self.truths)])
        return (self.seed, told)
