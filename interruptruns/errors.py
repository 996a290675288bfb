"""The errors of the package.

Each one keeps the object that it is made of, itself and not a copy. No text is
made of that object here, since it may be any object.
"""


class RunError(ValueError):
    """The base class of the errors about wrong values."""


class InvalidName(RunError):
    """What should be a name, or the name of something known, is not."""

    def __init__(self, value):
        self.value = value


class InvalidNumber(RunError):
    """What should be a number within its bounds is not."""

    def __init__(self, value):
        self.value = value


class InvalidBody(RunError):
    """What should be a body is not, or it uses too few ticks."""

    def __init__(self, value):
        self.value = value


class InvalidProgram(RunError):
    """A part of a program, or a program, is not as it is needed."""

    def __init__(self, value):
        self.value = value


class InvalidState(RunError):
    """What should be a state is not, or it is not as it is needed."""

    def __init__(self, value):
        self.value = value


class InvalidChoice(RunError):
    """A choice is not possible."""

    def __init__(self, value):
        self.value = value


class InvalidEvent(RunError):
    """What should be an event pattern or a question is not."""

    def __init__(self, value):
        self.value = value


class InvalidLimits(RunError):
    """What should be limits or levels is not."""

    def __init__(self, value):
        self.value = value


class InvalidLog(RunError):
    """What should be a log, its kinds, or its next events is not."""

    def __init__(self, value):
        self.value = value


class InvalidCommand(RunError):
    """A line is no command, or it cannot be performed now."""

    def __init__(self, value):
        self.value = value


class ParseError(RunError):
    """A text is not written as it should be; the field tells where."""

    def __init__(self, line):
        self.line = line


class TooMany(OverflowError):
    """There are more things than the limit allows."""

    def __init__(self, limit):
        self.limit = limit


class NothingToUndo(LookupError):
    """There is nothing that could be taken back."""


class NothingToRedo(LookupError):
    """There is nothing that could be done again."""
