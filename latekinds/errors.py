"""The errors of the package: each stands directly below KindError, which is a ValueError.

An error without fields has an `__init__` too: Python's own one would let it be made with any arguments.
"""


class KindError(ValueError):
    """What all errors of the package are."""


class BadBook(KindError):
    """No book: `at` is the number of the first item that is none, -1 for no tuple of items."""

    def __init__(self, at):
        self.at = at


class NoKind(KindError):
    """No kind of the book."""

    def __init__(self):
        pass


class BadKind(KindError):
    """Not the parents that a new kind may have."""

    def __init__(self):
        pass


class NoNumber(KindError):
    """No integer, or none within the told bounds."""

    def __init__(self):
        pass


class NoOrder(KindError):
    """No order of all kinds, each behind its parents."""

    def __init__(self):
        pass


class TooMany(KindError):
    """More than the `most` that there may be."""

    def __init__(self, most):
        self.most = most


class NoScheme(KindError):
    """No scheme."""

    def __init__(self):
        pass


class NoDealing(KindError):
    """No dealing of the book."""

    def __init__(self):
        pass


class NotTree(KindError):
    """No tree: `at` is the first kind that bars it."""

    def __init__(self, at):
        self.at = at


class NoName(KindError):
    """No name."""

    def __init__(self):
        pass


class NoClauses(KindError):
    """No clauses."""

    def __init__(self):
        pass


class NoFields(KindError):
    """No fields for the book."""

    def __init__(self):
        pass


class NoLaying(KindError):
    """No laying of the fields."""

    def __init__(self):
        pass


class NothingDone(KindError):
    """Nothing that could be taken back."""

    def __init__(self):
        pass


class BadText(KindError):
    """No right text: `line` is the first one that is wrong, 0 for no string."""

    def __init__(self, line):
        self.line = line


class NoLine(KindError):
    """No line that the desk knows."""

    def __init__(self):
        pass


class NoBook(KindError):
    """Nothing is kept under this `name`."""

    def __init__(self, name):
        self.name = name


class NoProgram(KindError):
    """No program."""

    def __init__(self):
        pass


class NoObject(KindError):
    """No object of the machine."""

    def __init__(self):
        pass


class NothingWhole(KindError):
    """Neither of the texts is a whole image."""

    def __init__(self):
        pass
