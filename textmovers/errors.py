"""The errors of the package, one class for each kind of failure."""


class MoverError(ValueError):
    """A value that is not of the form that its place asks for."""


class InvalidName(MoverError):
    """A value that is no name."""


class InvalidMachine(MoverError):
    """A value that is no machine, or tells none."""


class InvalidMove(MoverError):
    """A value that is no move, or tells none."""


class InvalidText(MoverError):
    """A value that is no text of the letters."""


class InvalidWord(MoverError):
    """A value that is no word of the machine."""


class InvalidOperation(MoverError):
    """A call that cannot be done with these values."""


class ParseError(MoverError):
    """A string that cannot be read, with the index of its first wrong line."""

    def __init__(self, index):
        self.index = index


class InvalidNumber(IndexError):
    """A value that is no integer within its limits."""

    def __init__(self, value):
        self.value = value

    def __str__(self):
        return repr(self.value)


class UnknownName(KeyError):
    """A value that names nothing that is there."""

    def __init__(self, name):
        self.name = name

    def __str__(self):
        return repr(self.name)


class TooMany(OverflowError):
    """A result that goes beyond a limit."""

    def __init__(self, limit):
        self.limit = limit


class NothingToUndo(LookupError):
    """Fewer calls can be taken back, or done again, than were asked for."""

    def __init__(self, many):
        self.many = many


class Broken(ArithmeticError):
    """A promise that would not be true any more, with its label."""

    def __init__(self, label):
        self.label = label


class Loud(RuntimeError):
    """A machine that is not quiet, with its first state that is to blame."""

    def __init__(self, state):
        self.state = state
