"""The errors of the package, each with what it keeps."""


class NoRow(LookupError):
    """There is no ROW of this number."""

    def __init__(self, number):
        LookupError.__init__(self, f"no row {number}")
        self.number = number


class NoVersion(LookupError):
    """There is no VERSION of this number."""

    def __init__(self, number):
        LookupError.__init__(self, f"no version {number}")
        self.number = number


class NoSlot(LookupError):
    """The SHAPE has no such slot."""

    def __init__(self, slot):
        LookupError.__init__(self, f"no slot {slot}")
        self.slot = slot


class NothingDone(LookupError):
    """There is nothing to take back, or to do again."""


class BadLine(ValueError):
    """This line of a text can not stand there."""

    def __init__(self, number):
        ValueError.__init__(self, f"line {number} can not stand there")
        self.number = number


class CanNot(ValueError):
    """What is asked for does not exist."""


class TooMany(ValueError):
    """There is more of it than is looked through."""


class Unfit(ValueError):
    """What is passed in is not what it has to be."""
