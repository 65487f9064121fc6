"""The errors of the package.

The messages do not show the fields: a field may be any value, also one that cannot be written out.
"""


class TurnError(ValueError):
    """The base of all errors of the package."""


class NotRight(TurnError):
    """The script is not right."""


class NothingToUndo(TurnError):
    """There is no call that can be taken back."""


class NoStep(TurnError):
    """There is no step at this index."""

    def __init__(self, index):
        super().__init__("there is no step at this index")
        self.index = index


class NoIndex(TurnError):
    """No step can be put in at this index."""

    def __init__(self, index):
        super().__init__("no step can be put in at this index")
        self.index = index


class NoDeed(TurnError):
    """What stands at this index is not a deed."""

    def __init__(self, index):
        super().__init__("what stands at this index is not a deed")
        self.index = index


class NoLine(TurnError):
    """The deed with this index names a line that is not there."""

    def __init__(self, index):
        super().__init__("the deed with this index names a line that is not there")
        self.index = index


class NoNumber(TurnError):
    """This is not a number that is asked for."""

    def __init__(self, number):
        super().__init__("this is not a number that is asked for")
        self.number = number


class NoText(TurnError):
    """This part of a text writes nothing that can be read."""

    def __init__(self, part):
        super().__init__("this part of the text cannot be read")
        self.part = part
