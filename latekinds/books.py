"""Books: kinds that are loaded one behind another, each below its parents."""

from latekinds.checks import is_lot, is_number
from latekinds.errors import BadBook, BadKind, NoKind, NoNumber, NoOrder
from latekinds.masks import masks_above, members

MOST_KINDS = 400
MOST_PARENTS = 6


class Book:
    """The kinds by their `parents`; `above` keeps for each kind the mask of all that it is."""

    def __init__(self, parents):
        at = first_bad(parents)
        if at is not None:
            raise BadBook(at)
        self.parents = parents
        self.above = masks_above(parents)

    def __eq__(self, other):
        return isinstance(other, Book) and self.parents == other.parents


def is_parents(thing, kind):
    """Whether it may be the parents of the kind with this number."""
    return is_lot(thing, kind) and len(thing) <= MOST_PARENTS


def first_bad(parents):
    """The number that BadBook tells, None for the parents of a book."""
    if not isinstance(parents, tuple) or len(parents) > MOST_KINDS:
        return -1
    for kind, row in enumerate(parents):
        if not is_parents(row, kind):
            return kind
    return None


def made_book(parents):
    """The book of parents that are right, of any size: only who constructs a book is held to one."""
    book = Book(())
    book.parents = parents
    book.above = masks_above(parents)
    return book


def check_kind(book, thing):
    """Raises NoKind for what is no kind of the book."""
    if not is_number(thing, 0, len(book.parents) - 1):
        raise NoKind()


def is_a(book, x, p):
    """Whether x is p or has p among its forebears."""
    check_kind(book, x)
    check_kind(book, p)
    return bool(book.above[x] >> p & 1)


def forebears(book, x):
    """The lot of the kinds that x is, but for itself."""
    check_kind(book, x)
    return members(book.above[x] ^ (1 << x))


def heirs(book, x):
    """The lot of the kinds that are an x, but for itself."""
    check_kind(book, x)
    later = range(x + 1, len(book.parents))
    return tuple([kind for kind in later if book.above[kind] >> x & 1])


def loaded(book, parents):
    """The book with one kind more."""
    if not is_parents(parents, len(book.parents)):
        raise BadKind()
    return made_book(book.parents + (parents,))


def beginning(book, many):
    """The book of the first so many kinds."""
    if not is_number(many, 0, len(book.parents)):
        raise NoNumber()
    return made_book(book.parents[:many])


def plain(book):
    """The book in which no kind has a parent that it is by way of another parent."""
    return made_book(tuple([plain_row(book, row) for row in book.parents]))


def plain_row(book, row):
    """The parents among these that are no forebear of another one of them."""
    higher = 0
    for parent in row:
        higher |= book.above[parent] ^ (1 << parent)
    return tuple([parent for parent in row if not higher >> parent & 1])


def reordered(book, order):
    """The book whose kind k is order[k] of this one."""
    if not is_order(book, order):
        raise NoOrder()
    place = {kind: at for at, kind in enumerate(order)}
    rows = []
    for kind in order:
        rows.append(tuple(sorted([place[parent] for parent in book.parents[kind]])))
    return made_book(tuple(rows))


def is_order(book, thing):
    """Whether it is a tuple of all kinds, each once, each behind its parents."""
    if not isinstance(thing, tuple) or len(thing) != len(book.parents):
        return False
    there = 0
    for kind in thing:
        if not is_number(kind, 0, len(thing) - 1) or there >> kind & 1:
            return False
        there |= 1 << kind
        if book.above[kind] & ~there:
            return False
    return True


def beside(one_book, other_book):
    """The kinds of the one book, then those of the other one, numbered on."""
    shift = len(one_book.parents)
    moved = [tuple([parent + shift for parent in row]) for row in other_book.parents]
    return made_book(one_book.parents + tuple(moved))
