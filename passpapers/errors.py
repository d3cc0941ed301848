"""What the package refuses with."""


class PassError(ValueError):
    """Something that is not as it has to be."""


class NoText(PassError):
    """A text that doesn't write one thing."""


class NoTree(PassError):
    """A thing that is no tree."""


class NoMiddle(PassError):
    """A program of the middle that isn't right, and a place where it isn't."""

    def __init__(self, why="", place=("", -1, -1)):
        self.why = why
        self.place = place


class NoMachine(PassError):
    """A machine that isn't right, and a place where it isn't."""

    def __init__(self, why="", place=("", -1, -1)):
        self.why = why
        self.place = place


class NoPass(PassError):
    """A pass that can't be done, or an order of passes that is none."""
