"""The errors of the package."""


class LibraryError(ValueError):
    """The base class of all errors of the package."""


class BadLibrary(LibraryError):
    """A value that is no library; part is "library", "texts" or "tablets"."""

    def __init__(self, part):
        super().__init__(f"no library, by its part: {part}")
        self.part = part


class BadMost(LibraryError):
    """A value that is no greatest number of tablets to write a new one from."""


class BadDays(LibraryError):
    """A value that is no row of days; index is the first wrong one, None if there is no row."""

    def __init__(self, index):
        super().__init__(f"no days, by the item: {index}")
        self.index = index


class BadTablet(LibraryError):
    """A value that is not the number of a tablet."""


class BadNumber(LibraryError):
    """A value that is not an integer of the range that is asked for."""


class NoScheme(LibraryError):
    """There is no such scheme."""


class BadStep(LibraryError):
    """A step that a bench cannot take now."""


class TooMany(LibraryError):
    """More cases than the program goes through; most is how many it would."""

    def __init__(self, most):
        super().__init__(f"more cases than {most}")
        self.most = most


class BadString(LibraryError):
    """A value that is no string."""


class BadLine(LibraryError):
    """A word of a text that cannot stand; line and word are counted from 1."""

    def __init__(self, line, word):
        super().__init__(f"line {line}, word {word} cannot stand")
        self.line = line
        self.word = word


class BadShown(LibraryError):
    """A value that is no contents, or no row of what is read."""
