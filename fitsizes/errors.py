"""The errors that the program raises, each with the value that it is about."""


class SizeError(ValueError):
    """The base of all errors of the program."""

    def __init__(self, value):
        self.value = value


class InvalidLine(SizeError):
    """Starts and a rise that tell no line: the number of a start, of the starts, or None."""


class InvalidPipeline(SizeError):
    """A step that a pipeline cannot have: its number."""


class InvalidNumber(SizeError):
    """A number or a size that is out of its bounds."""


class InvalidRow(SizeError):
    """The number of a row that a pipeline does not have."""


class InvalidCell(SizeError):
    """The number of a cell that a row does not have."""


class InvalidPlaces(SizeError):
    """Numbers of steps that cannot be changed as asked."""


class NotFitting(SizeError):
    """A size that does not go through a pipeline: the first row that fails."""


class NotSteady(SizeError):
    """A pipeline that only some sizes fit."""


class NothingToUndo(SizeError):
    """A sheet without a call that can be taken back."""


class Unreadable(SizeError):
    """A text that nothing has."""
