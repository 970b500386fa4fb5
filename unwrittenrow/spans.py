"""Rows of integers, and which other ones are sums of their multiples, told exactly.

Without fractions: the rows that are kept are those of a matrix brought to a multiple of unity, all by
the same number, as Bareiss does it. So each division here leaves no rest.
"""

from unwrittenrow.fractions import reduced


class Span:
    """All sums of multiples of rows with so many items.

    Of each row that is taken, and of each one that is asked for, it is kept of which multiples of
    the rows that were taken it comes, if tells_multiples is so.
    """

    def __init__(self, width, tells_multiples):
        self.width = width
        self.many_told = width if tells_multiples else 0
        self.rows = []
        self.pivots = []
        # What each row has at its own pivot; at those of the others it has 0.
        self.scale = 1

    def rest_of(self, row):
        """Return scale times a row, less what the rows tell of it, and of which multiples this came."""
        rest = [self.scale * item for item in row] + [0 for _ in range(self.many_told)]
        for pivot, other in zip(self.pivots, self.rows):
            factor = row[pivot]
            if factor != 0:
                rest = [item - factor * its for item, its in zip(rest, other)]
        return rest

    def takes(self, row):
        """Tell whether a row is no sum of multiples of those that were taken, and take it if so."""
        rest = self.rest_of(row)
        pivot = _first_not_nought(rest[:self.width])
        if pivot is None:
            return False
        if self.many_told > 0:
            rest[self.width + len(self.rows)] = self.scale
        scale = rest[pivot]
        self.rows = [
            [(scale * item - other[pivot] * its) // self.scale for item, its in zip(other, rest)]
            for other in self.rows
        ]
        self.rows.append(rest)
        self.pivots.append(pivot)
        self.scale = scale
        return True

    def multiples_for(self, row, many):
        """Return the tuple of the FRACTIONS of the first many rows that were taken whose sum a row is."""
        rest = self.rest_of(row)
        return tuple([reduced(-item, self.scale) for item in rest[self.width:self.width + many]])


def _first_not_nought(items):
    """Return the index of the first item that is not 0, `None` if there is none."""
    for at, item in enumerate(items):
        if item != 0:
            return at
    return None
