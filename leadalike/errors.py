"""The errors that the package raises, each with what it tells."""


class InvalidProgram(ValueError):
    """The value is not a program; part tells where it is wrong."""

    def __init__(self, part):
        self.part = part


class InvalidFacts(ValueError):
    """The value is not a set of facts; index is its first wrong part, or None."""

    def __init__(self, index):
        self.index = index


class InvalidWishes(ValueError):
    """The value is not a tuple of wishes; index is its first wrong part, or None."""

    def __init__(self, index):
        self.index = index


class InvalidOptions(ValueError):
    """The value is not a tuple of options; index is its first wrong part, or None."""

    def __init__(self, index):
        self.index = index


class InvalidClaim(ValueError):
    """The value is not a claim; part is the name of its first wrong part."""

    def __init__(self, part):
        self.part = part


class ParseError(ValueError):
    """The text is not a program; line is the index of its first wrong line."""

    def __init__(self, line):
        self.line = line


class NotThere(LookupError):
    """What is asked for, or to be taken away, is not there."""


class AlreadyThere(RuntimeError):
    """What is to be added is there already."""


class Full(RuntimeError):
    """There is no room for one more."""


class Unkept(RuntimeError):
    """The change would leave the guarded wish with this index unkept."""

    def __init__(self, index):
        self.index = index


class Refused(RuntimeError):
    """The deed with this index is refused; reason names the class of its error."""

    def __init__(self, index, reason):
        self.index = index
        self.reason = reason


class NothingDone(RuntimeError):
    """There are not so many deeds to take back."""


class LimitExceeded(OverflowError):
    """More would have to be looked at than the limit allows."""

    def __init__(self, limit):
        self.limit = limit
