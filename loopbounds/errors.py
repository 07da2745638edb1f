"""The errors that the program raises."""


class InputError(ValueError):
    """A value that is not of the kind or form that is asked for."""


class InvalidNumber(InputError):
    """This value is not an integer from the range that is asked for."""

    def __init__(self, number):
        self.number = number


class InvalidRatio(InputError):
    """This value is not a number, neither a ratio nor an integer."""

    def __init__(self, value):
        self.value = value


class InvalidName(InputError):
    """This value is not a name."""

    def __init__(self, name):
        self.name = name


class InvalidRange(InputError):
    """The range of the variable with this name is not a range."""

    def __init__(self, name):
        self.name = name


class InvalidSum(InputError):
    """This sum cannot be assigned to the variable."""

    def __init__(self, value):
        self.value = value


class InvalidBases(InputError):
    """The bases are not a tuple of bases; the item with this index is the first wrong one."""

    def __init__(self, index):
        self.index = index


class InvalidValues(InputError):
    """The values are not the values that are asked for; the item with this index is the first wrong one."""

    def __init__(self, index):
        self.index = index


class InvalidDeeds(InputError):
    """The item with this index is the first one that is no deed."""

    def __init__(self, index):
        self.index = index


class InvalidText(InputError):
    """This value is not a text of the form that is asked for."""

    def __init__(self, text):
        self.text = text


class InvalidCommand(InputError):
    """This value is not a line that a console executes."""

    def __init__(self, command):
        self.command = command


class NotASum(InputError):
    """This value is neither a sum nor a number."""

    def __init__(self, value):
        self.value = value


class NotALoop(InputError):
    """This value is not a loop."""

    def __init__(self, value):
        self.value = value


class UnlikeRanges(InputError):
    """Two loops do not both have a variable with this name and the same range."""

    def __init__(self, name):
        self.name = name


class ZeroDivisor(InputError):
    """A number was to be divided by 0."""


class StateError(LookupError):
    """A request that does not fit what is there."""


class UnknownName(StateError):
    """There is nothing with this name."""

    def __init__(self, name):
        self.name = name


class TwiceAssigned(StateError):
    """The variable with this name would be assigned twice in one round."""

    def __init__(self, name):
        self.name = name


class Ring(StateError):
    """The variables of this row would rest on one another."""

    def __init__(self, ring):
        self.ring = ring


class Refused(StateError):
    """The guarded sum with this name would not always hold."""

    def __init__(self, name):
        self.name = name


class Broken(StateError):
    """A sum is less than 0 after so many rounds from this beginning."""

    def __init__(self, rounds, beginning):
        self.rounds = rounds
        self.beginning = beginning


class Busy(StateError):
    """The desk is at work."""


class NothingToUndo(StateError):
    """There are fewer deeds than are to be undone."""


class LimitError(ArithmeticError):
    """An answer that lies beyond a limit."""


class TooMany(LimitError):
    """So many were found, which is not allowed."""

    def __init__(self, found):
        self.found = found


class TooLong(LimitError):
    """The body of the loop is full."""


class TooFar(LimitError):
    """A place lies too far out."""
