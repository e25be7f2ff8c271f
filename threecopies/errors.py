"""The errors of the package. Each one but CopyError is a direct subclass of CopyError."""


class CopyError(ValueError):
    """The base of all errors of this package."""


class NoRun(CopyError):
    """A thing is no run: no tuple of deeds."""


class NoWorld(CopyError):
    """A thing is no world, or none of the worlds that a function takes."""


class NoCopy(CopyError):
    """A thing is no living copy, or not another one where two unlike copies are asked for."""


class NoCopies(CopyError):
    """A thing is no tuple of all living copies, each once."""


class NoOrder(CopyError):
    """A thing is no tuple of all stamps of a book, each once."""


class NoLook(CopyError):
    """A book has no look."""


class NoQuestion(CopyError):
    """A thing is no question, or none of those that a function takes."""


class NoNumber(CopyError):
    """A thing is no integer within the bounds that a function sets."""


class NoStamp(CopyError):
    """A thing is no stamp of a book."""


class NoStamps(CopyError):
    """A thing is no tuple of stamps of a book."""


class NoCell(CopyError):
    """A thing is no cell of a notebook."""


class NoValue(CopyError):
    """A thing is nothing that a cell can contain."""


class Full(CopyError):
    """As many copies live as may live."""


class LastCopy(CopyError):
    """The last copy can't be lost."""


class NothingDone(CopyError):
    """There is no deed that could be taken back."""


class NotLet(CopyError):
    """A deed of a run can't be done, or may not be in the world: the index of the first such deed."""

    def __init__(self, index):
        self.index = index


class BadLog(CopyError):
    """An entry of a log is no deed, or can't be done: its index, or -1 for what is no list."""

    def __init__(self, index):
        self.index = index


class BadBook(CopyError):
    """A part of a book is wrong: the name of this part."""

    def __init__(self, part):
        self.part = part


class TooMany(CopyError):
    """There are more things than a function counts: how many it counts at most."""

    def __init__(self, most):
        self.most = most


class BadText(CopyError):
    """A line of a text is wrong: its number, counted from 1, or 0 for what is no string."""

    def __init__(self, line):
        self.line = line
