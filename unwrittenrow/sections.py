"""The lines of a text that shows a house, parted by what they are of."""

from unwrittenrow.errors import NoText
from unwrittenrow.forms import MOST_PLACES, is_from, is_within, is_word_of
from unwrittenrow.numerals import number_in
from unwrittenrow.reader import lines_with_words, number_of_lines, read_coins, read_facts, read_model

# Sections of a text, in their order; the last one has all lines behind that of MARK.
LENGTH = 0
ROOM = 1
COINS = 2
FACTS = 3
WRITTEN = 4
MARK = 5
MODEL = 6

# By the first words of lines.
SECTIONS = {"length": 0, "room": 1, "seed": 2, "coin": 2, "fact": 3, "write": 4, "model": 5}


class HouseText:
    """A text that shows a house, and the indexes of the lines in it that are bad."""

    def __init__(self, text):
        self.rows = text.split("\n")
        self.end = number_of_lines(text)
        self.bad = []
        # For each section the list of the tuples (index, words) of its lines.
        self.lines = [[] for _ in range(MODEL + 1)]
        at = LENGTH
        for line, words in lines_with_words(text):
            section = MODEL if at == MODEL else SECTIONS.get(words[0], -1)
            if section < at:
                self.bad.append(line)
            else:
                self.lines[section].append((line, words))
                at = section + 1 if section in (LENGTH, ROOM, MARK) else section

    def text_of(self, section):
        """Return the text with the lines of a section alone, each one where it stands."""
        kept = {line: True for line, _ in self.lines[section]}
        return "\n".join([row if line in kept else "" for line, row in enumerate(self.rows)])

    def number_told(self, section, low):
        """Return the integer from low on that the line of a section tells, or `None`."""
        if not self.lines[section]:
            self.bad.append(self.end)
            return None
        line, words = self.lines[section][0]
        number = number_in(words[1]) if len(words) == 2 else None
        if not is_from(number, low) or (section == LENGTH and number > MOST_PLACES):
            self.bad.append(line)
            return None
        return number

    def coins_told(self):
        """Return the COINS, or `None`."""
        try:
            return read_coins(self.text_of(COINS))
        except NoText as refusal:
            self.bad.append(refusal.line)
            return None

    def model_told(self):
        """Return the MODEL, or `None`."""
        self.bad.extend([line for line, words in self.lines[MARK] if len(words) > 1])
        try:
            return read_model(self.text_of(MODEL))
        except NoText as refusal:
            self.bad.append(refusal.line)
            return None

    def facts_told(self, measure, n):
        """Return the FACTS for n, or `None`."""
        try:
            return read_facts(measure, n, self.text_of(FACTS))
        except NoText as refusal:
            self.bad.append(refusal.line)
            return None

    def letters_told(self, measure, n):
        """Return the dict from the WRITTEN places below n to their LETTERS."""
        written = {}
        for line, words in self.lines[WRITTEN]:
            x = number_in(words[1]) if len(words) == 3 else None
            if is_within(x, 0, n - 1) and x not in written and is_letter_of(measure, words[2]):
                written[x] = words[2]
            else:
                self.bad.append(line)
        return written


def is_letter_of(measure, thing):
    """Tell whether any value is a LETTER of a MEASURE."""
    return is_word_of(measure, thing) and len(thing) == 1
