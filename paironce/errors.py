"""The errors that the program raises.

The messages name no values: Python does not turn every great integer into a text.
"""


class PaironceError(ValueError):
    """The base class of all errors that the program raises."""


class InvalidSystem(PaironceError):
    """Something is no system, or no partial system."""


class InvalidTerm(PaironceError):
    """Something is no term, or no name of one."""


class InvalidQuestion(PaironceError):
    """A question that cannot be asked about these numbers."""


class NothingToUndo(PaironceError):
    """There is no change to take back."""


class NothingToRedo(PaironceError):
    """There is no change to make again."""


class UnknownPoint(PaironceError):
    """A point that a system does not have."""

    def __init__(self, point):
        super().__init__("the system does not have this point")
        self.point = point


class UnknownName(PaironceError):
    """A name under which there is nothing."""

    def __init__(self, name):
        super().__init__("there is nothing of this name")
        self.name = name


class InvalidNotation(PaironceError):
    """A text with a line that cannot stand where it stands."""

    def __init__(self, line):
        super().__init__("the text has another form at this line")
        self.line = line


class InvalidPaper(PaironceError):
    """A text of a paper with a line that cannot stand where it stands."""

    def __init__(self, line):
        super().__init__("the paper has another form at this line")
        self.line = line


class TooMany(PaironceError):
    """There are more than the limit."""

    def __init__(self, limit):
        super().__init__("there are more than the limit")
        self.limit = limit


class NameInUse(PaironceError):
    """A name that something else is about."""

    def __init__(self, name):
        super().__init__("something is about this name")
        self.name = name
