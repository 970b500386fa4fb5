"""Texts that show MODELS, FACTS and COINS."""

from unwrittenrow.numerals import shown


def show_model(model):
    """Return the text that shows a MODEL."""
    (table, values), begins, ends, arcs = model
    lines = ["table " + " ; ".join([in_a_row(row) for row in table])]
    lines.extend([f"letter {letter} {shown(member)}" for letter, member in values])
    lines.append("begin " + in_a_row(begins))
    lines.append("end " + in_a_row(ends))
    lines.extend([f"arc {shown(p)} {letter} {shown(q)} {shown(w)}" for p, letter, q, w in arcs])
    return "\n".join(lines)


def show_facts(facts):
    """Return the text that shows FACTS."""
    return "\n".join(["fact " + in_a_row((i, j) + lot) for i, j, lot in facts])


def show_coins(coins):
    """Return the text that shows COINS."""
    seed, told = coins
    return "\n".join(["seed " + shown(seed)] + [_coin_line(name, k, coin) for name, k, coin in told])


def _coin_line(name, k, coin):
    """Return the line that shows one told COIN."""
    place = in_a_row(name) if name else "whole"
    return f"coin {place} {shown(k)} " + ("yes" if coin else "no")


def in_a_row(numbers):
    """Return numbers as words with blanks between them."""
    return " ".join([shown(number) for number in numbers])
