"""The OPEN ROW: a question about it, put together of ASKS of the ROW beneath what is WRITTEN."""

from unwrittenrow.asks import lot_sought, stretch_of
from unwrittenrow.measures import led_from, led_to


class Parts:
    """A question on its way along its STRETCH, from the last place on if it is one for the last.

    part is the ASK of the ROW beneath that comes next, `None` if there is no more.
    """

    def __init__(self, measure, written, question):
        self.measure = measure
        self.members = dict(measure[1])
        self.kind = question[0]
        self.lot = lot_sought(question)
        self.letters = []
        self.product = 0
        self.place = None
        self.part = None
        # What is still to come, the next one last: PIECES (i, j, `None`), and WRITTEN places with LETTERS.
        self.left = _pieces(written, stretch_of(question))
        if self.kind != "last":
            self.left = self.left[::-1]
        if 0 in self.lot and self.left:
            i, j, _ = self.left[-1]
            self.find_place(i if self.kind == "first" else j - 1)
        self.go_on()

    def take(self, answer):
        """Go on with the answer to the part."""
        kind = self.part[0]
        if kind in ("letter", "letters"):
            self.letters.append(answer)
        elif kind == "measure":
            self.put_beside(answer)
        elif answer is not None:
            self.find_place(answer)
        elif self.left:
            # Of what is still to come it is asked by the MEASURE of this PIECE, too.
            self.part = ("measure", self.part[1], self.part[2])
            return
        self.go_on()

    def go_on(self):
        """Come to the next part, past all that is WRITTEN."""
        self.part = None
        while self.left and self.part is None:
            i, j, letter = self.left.pop()
            if letter is None:
                self.part = self.part_of(i, j)
            else:
                self.take_written(i, letter)

    def part_of(self, i, j):
        """Return the ASK of a PIECE."""
        if self.kind == "letter":
            return ("letter", i)
        if self.kind == "first":
            return ("first", i, j, led_from(self.measure, self.product, self.lot))
        if self.kind == "last":
            return ("last", i, j, led_to(self.measure, self.product, self.lot))
        return (self.kind, i, j)

    def take_written(self, x, letter):
        """Go on with the WRITTEN letter at a place."""
        self.letters.append(letter)
        self.put_beside(self.members[letter])
        if self.product in self.lot:
            self.find_place(x)

    def put_beside(self, member):
        """Put a MEMBER to the product so far, at the side from which it comes."""
        table = self.measure[0]
        self.product = table[member][self.product] if self.kind == "last" else table[self.product][member]

    def find_place(self, x):
        """End with the place that is sought."""
        self.place = x
        self.left = []

    def answer(self):
        """Return the answer, all parts being told."""
        if self.kind in ("letter", "letters"):
            return "".join(self.letters)
        return self.product if self.kind == "measure" else self.place


def _pieces(written, stretch):
    """Return the list of the PIECES of a STRETCH and of its WRITTEN places, ascending."""
    at, j = stretch
    found = []
    for x in sorted(written):
        if at <= x < j:
            found.extend([(at, x, None), (x, x + 1, written[x])])
            at = x + 1
    found.append((at, j, None))
    return [piece for piece in found if piece[0] < piece[1]]
