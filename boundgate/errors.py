"""The refusals: one class for each kind, with what it is made of kept in its fields."""


class GateError(ValueError):
    """What every refusal is, but those of a name that isn't there."""


class NoWord(GateError):
    """A word that is none of those that are wanted."""


class NoBit(GateError):
    """A bit that is no unsure one."""


class NoTable(GateError):
    """A table that isn't let by."""


class Bare(GateError):
    """No step is there to be taken back."""


class Shut(GateError):
    """The house is shut while a watcher is called."""


class NoRow(GateError):
    """A row that the desk doesn't know."""


class NoProgram(GateError):
    """No program; number is that of the first thing in it that is no row, or None."""

    def __init__(self, number):
        self.number = number


class NoText(GateError):
    """A text that writes no program; number is that of the first row that writes none, or None."""

    def __init__(self, number):
        self.number = number


class NoContract(GateError):
    """No contract; part and number tell what in it is none, each perhaps None."""

    def __init__(self, part, number):
        self.part = part
        self.number = number


class NoInput(GateError):
    """What was handed in for a run is none; part tells which of it."""

    def __init__(self, part):
        self.part = part


class TooMany(GateError):
    """More states than size would be walked."""

    def __init__(self, size):
        self.size = size


class NotLet(GateError):
    """A program that is told out, with the word and the way."""

    def __init__(self, word, way):
        self.word = word
        self.way = way


class NoCall(KeyError):
    """No call of that name is in the contract."""

    def __init__(self, name):
        self.name = name


class NoName(KeyError):
    """No program of that name is there, or it is no name."""

    def __init__(self, name):
        self.name = name


class NoShelf(LookupError):
    """No shelf of that name is there."""

    def __init__(self, name):
        self.name = name
