"""Kinds that are there, with what the told rule gave to each."""

from latekinds.books import Book, check_kind, loaded
from latekinds.grouping import Grouping
from latekinds.rule import last_triple
from latekinds.schemes import compared


class Standing:
    """A book `known`, its `grouping` and its `scheme`; it never changes, so what goes on apart may share it."""

    def __init__(self):
        self.known = Book(())
        self.grouping = Grouping()
        self.scheme = ()

    def many(self):
        """How many kinds there are."""
        return len(self.scheme)

    def followed_by(self, parents):
        """The standing with one kind more; what was given stays."""
        after = Standing()
        after.known = loaded(self.known, parents)
        after.grouping = self.grouping.copied()
        after.grouping.take(after.known.above[-1])
        triple = last_triple(after.grouping, [self.scheme[parent][2] for parent in parents])
        after.scheme = self.scheme + (triple,)
        return after

    def given(self, x):
        """What the kind was given."""
        check_kind(self.known, x)
        return self.scheme[x]

    def says(self, x, p):
        """Whether x is a p, by one comparison of what was given."""
        check_kind(self.known, x)
        check_kind(self.known, p)
        return compared(self.scheme, x, p)
