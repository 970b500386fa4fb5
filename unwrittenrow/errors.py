"""The errors that the package raises."""


class RowError(ValueError):
    """What all errors of the package are; it is raised nowhere itself."""


class Wrong(RowError):
    """The argument at a place is not as it is described."""

    def __init__(self, place):
        self.place = place


class NoText(RowError):
    """The line with an index keeps a text from being read."""

    def __init__(self, line):
        self.line = line


class NoRow(RowError):
    """No word has a weight above 0 and meets the facts."""

    # Without an __init__ of its own the class would take any arguments.
    def __init__(self):
        pass


class TooClose(RowError):
    """The coins of a name make nothing: they lie too near a border."""

    def __init__(self, name):
        self.name = name


class TooMany(RowError):
    """There are more than the most that may be."""

    def __init__(self, most):
        self.most = most


class Crossing(RowError):
    """A fact does not go together with those that are there."""

    def __init__(self, fact):
        self.fact = fact


class NotThere(RowError):
    """What is to be taken away is not there."""

    def __init__(self, thing):
        self.thing = thing


class Nothing(RowError):
    """There is nothing to take back."""

    def __init__(self):
        pass


class NoCommand(RowError):
    """A line is no command."""

    def __init__(self):
        pass
