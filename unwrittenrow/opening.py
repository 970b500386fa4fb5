"""Which NAMES an ASK OPENS, one by one, as it is told what is MADE of each."""

from unwrittenrow.asks import lot_sought, stretch_of
from unwrittenrow.blocks import halves_of
from unwrittenrow.errors import NoRow, TooClose


class Opening:
    """An ASK on its way down the TREE.

    name is the NAME that it OPENS next, `None` if there is no more; stand is its STAND, n for ().
    taken has the STANDS of the BLOCKS of which it takes the MEMBERS.
    """

    def __init__(self, measure, n, facts, ask):
        self.table = measure[0]
        self.conditions = facts
        self.kind = ask[0]
        self.stretch = stretch_of(ask)
        self.lot = lot_sought(ask)
        self.name = ()
        self.stand = n
        self.taken = []
        # BLOCKS to be gone into, with their STANDS, the next one last.
        self.left = []
        self.letters = []
        self.product = 0
        self.place = None

    def take(self, thing):
        """Go on with the THING that is MADE in the CHOICE of the NAME."""
        if self.name == ():
            self.left.append(((0, self.stand), thing))
        elif self.name[1] - self.name[0] == 1:
            self.letters.append(thing)
        else:
            self.take_halves(thing)
        self.name, self.stand = None, None
        while self.left and self.name is None:
            block, stand = self.left.pop()
            self.go_into(block, stand)

    def take_halves(self, thing):
        """Put the HALVES of the NAME where they come next, in the order of the ASK."""
        p, q, _ = self.stand
        r, x, y = thing
        first, second = halves_of(self.conditions, self.name)
        halves = [(first, (p, r, x)), (second, (r, q, y))]
        self.left.extend(halves if self.kind == "last" else halves[::-1])

    def go_into(self, block, stand):
        """Pass over a BLOCK, take it, or OPEN it."""
        i, j = self.stretch
        if max(block[0], i) >= min(block[1], j):
            return
        is_inside = i <= block[0] and block[1] <= j
        if self.kind in ("letter", "letters") or not is_inside or self.is_sought_in(stand):
            self.go_down(block, stand)
        else:
            self.product = self.product_with(stand)
            self.taken.append(stand)

    def go_down(self, block, stand):
        """OPEN a BLOCK, or end at its place if this is the one that is sought."""
        if self.kind in ("first", "last") and block[1] - block[0] == 1:
            self.place = block[0]
            self.left = []
        else:
            self.name, self.stand = block, stand

    def is_sought_in(self, stand):
        """Tell whether the place that is sought, if one is, is in a BLOCK of the STRETCH with a STAND."""
        return self.product_with(stand) in self.lot

    def product_with(self, stand):
        """Return the product so far with the MEMBER of a STAND beside it."""
        if self.kind == "last":
            return self.table[stand[2]][self.product]
        return self.table[self.product][stand[2]]

    def answer(self):
        """Return the answer, all NAMES being OPENED."""
        if self.kind in ("letter", "letters"):
            return "".join(self.letters)
        return self.product if self.kind == "measure" else self.place


def steps_along(opening, list_shares, pick):
    """Lead an Opening to its end, and return the list of the tuples (name, d, thing).

    list_shares(name, stand) returns the list of the tuples (THING, SHARE) of a CHOICE;
    pick(shares, name) the index of what is MADE and d, or `None`.
    """
    steps = []
    while opening.name is not None:
        name = opening.name
        shares = list_shares(name, opening.stand)
        if not shares:
            raise NoRow()
        found = pick([share for _, share in shares], name)
        if found is None:
            raise TooClose(name)
        index, d = found
        thing = shares[index][0]
        steps.append((name, d, thing))
        opening.take(thing)
    return steps
