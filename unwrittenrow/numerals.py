"""Integers from 0 on, shown by digits and read from them.

str and int of Python refuse integers of some thousand digits; these do not.
"""


def shown(number):
    """Return the digits of an integer from 0 on."""
    parts = []
    while number >= 10 ** 60:
        number, rest = divmod(number, 10 ** 60)
        parts.append(str(rest).zfill(60))
    parts.append(str(number))
    return "".join(parts[::-1])


def number_in(word):
    """Return the integer from 0 on that a word shows as Python does, `None` if it shows none."""
    if not (word.isascii() and word.isdigit()):
        return None
    if word[0] == "0" and len(word) > 1:
        return None
    ahead = len(word) % 60
    number = int("0" + word[:ahead])
    for at in range(ahead, len(word), 60):
        number = number * 10 ** 60 + int(word[at:at + 60])
    return number


def numbers_in(words):
    """Return the tuple of the integers that words show, with `None` for a word that shows none."""
    return tuple([number_in(word) for word in words])
