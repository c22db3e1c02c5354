"""The refusals: each has its own class, straight under FrameError."""


class FrameError(ValueError):
    """Any refusal."""


class NoRow(FrameError):
    """A row can't be made of such a number."""


class NoTable(FrameError):
    """There is no such table."""


class NoText(FrameError):
    """A text is not of the form asked for."""


class NoProgram(FrameError):
    """What was handed in is no program."""


class NoLine(FrameError):
    """The desk knows no such row of text."""


class NoName(FrameError):
    """A word is no name, or nothing is kept under it."""

    def __init__(self, name):
        FrameError.__init__(self, f"no such name: {name!r}")
        self.name = name


class Astray(FrameError):
    """The reader can't tell a caller."""

    def __init__(self, row):
        FrameError.__init__(self, f"astray at row {row}")
        self.row = row
