"""The errors of the package."""


class StageError(ValueError):
    """The base class of all errors of the package."""


class BadProgram(StageError):
    """A value is no program."""


class BadName(StageError):
    """A value is not the name of a function of the program."""


class BadExpression(StageError):
    """A value is no expression of any program."""


class BadNumber(StageError):
    """A value is not an integer within the bounds."""


class BadLates(StageError):
    """A value is no tuple of as many numbers as are called for."""


class BadFuel(StageError):
    """A value is not an amount of fuel."""


class BadPoint(StageError):
    """A value is not a point of the program."""


class BadPlain(StageError):
    """A value is no plain program."""


class NotEnding(StageError):
    """The staging of a point never ends."""


class BadIndex(StageError):
    """A value is not the index of a late number."""


class NotSwapped(StageError):
    """The swapped program cannot be written."""


class NotLifted(StageError):
    """The lifted program cannot be written."""


class BadCode(StageError):
    """A value is no code; index tells the first instruction that is none, or is None."""

    def __init__(self, index):
        super().__init__(f"no code: {index}")
        self.index = index


class Stuck(StageError):
    """A run of code cannot go on at an address."""

    def __init__(self, address):
        super().__init__(f"stuck at {address}")
        self.address = address


class Unsound(StageError):
    """The stack of a code has no fixed heights."""


class NotText(StageError):
    """A value is not a string."""


class InvalidText(StageError):
    """A text names no program."""


class TooMany(StageError):
    """There is more of something than the most that is allowed."""

    def __init__(self, most):
        super().__init__(f"more than {most}")
        self.most = most
