"""Schemes: a slot, a number and a row of entries for each kind, by which one comparison tells who is what."""

from latekinds.checks import is_integer, is_number
from latekinds.errors import NoDealing, NoKind, NoScheme
from latekinds.masks import lowest
from latekinds.widths import is_dealing


def is_triple(thing):
    """Whether it is a slot, a number and a row."""
    if not isinstance(thing, tuple) or len(thing) != 3:
        return False
    slot, number, row = thing
    if not is_integer(slot) or slot < 0 or not is_integer(number):
        return False
    return isinstance(row, tuple) and all([is_integer(entry) for entry in row])


def is_any_scheme(thing):
    """Whether it is a scheme for some book, right or not."""
    return isinstance(thing, tuple) and all([is_triple(item) for item in thing])


def check_scheme(thing):
    """Raises NoScheme for what is no scheme for some book."""
    if not is_any_scheme(thing):
        raise NoScheme()


def check_known(scheme, thing):
    """Raises NoKind for what is no kind that the scheme knows."""
    if not is_number(thing, 0, len(scheme) - 1):
        raise NoKind()


def compared(scheme, x, p):
    """The one comparison."""
    slot, number, _ = scheme[p]
    row = scheme[x][2]
    return slot < len(row) and row[slot] >= number


def said_mask(scheme, x):
    """The mask of the kinds that the scheme says x is."""
    mask = 0
    for p in range(len(scheme)):
        if compared(scheme, x, p):
            mask |= 1 << p
    return mask


def says(scheme, x, p):
    """Whether the scheme, right or not, says that x is a p."""
    check_scheme(scheme)
    check_known(scheme, x)
    check_known(scheme, p)
    return compared(scheme, x, p)


def is_scheme(book, thing):
    """Whether it is a scheme that says of all kinds of the book just what is so."""
    if not is_any_scheme(thing) or len(thing) != len(book.parents):
        return False
    return least_wrong(book, thing) is None


def first_wrong(book, scheme):
    """The least pair (x, p) of which the scheme says what is not so, or None."""
    if not is_any_scheme(scheme) or len(scheme) != len(book.parents):
        raise NoScheme()
    return least_wrong(book, scheme)


def least_wrong(book, scheme):
    """What first_wrong tells, of a scheme of as many kinds."""
    for x, mask in enumerate(book.above):
        wrong = said_mask(scheme, x) ^ mask
        if wrong:
            return x, lowest(wrong)
    return None


def slots_of(scheme):
    """All slots, kind by kind."""
    check_scheme(scheme)
    return tuple([triple[0] for triple in scheme])


def many_slots(scheme):
    """How many unlike slots there are."""
    return len(set(slots_of(scheme)))


def scheme_of(book, dealing):
    """The scheme with a slot for each row of the dealing."""
    if not is_dealing(book, dealing):
        raise NoDealing()
    heads = {}
    for slot, row in enumerate(dealing):
        for at, kind in enumerate(row):
            heads[kind] = (slot, at + 1)
    scheme = []
    for kind, mask in enumerate(book.above):
        slot, number = heads[kind]
        scheme.append((slot, number, tuple([many_within(row, mask) for row in dealing])))
    return tuple(scheme)


def many_within(row, mask):
    """How many kinds of the row are in the mask.

    Who is one kind of a row is all that stand ahead of it, so this is also the number of the last such kind.
    """
    return len([kind for kind in row if mask >> kind & 1])
