"""Clauses: lists of kinds with labels, the first one that some kind is telling its label, whatever kinds still come."""

from latekinds.books import check_kind
from latekinds.checks import is_integer, is_number
from latekinds.errors import NoClauses

MOST_CLAUSES = 40


def is_clause(book, thing):
    """Whether it is a pair of a kind and a label."""
    if not isinstance(thing, tuple) or len(thing) != 2:
        return False
    kind, label = thing
    return is_number(kind, 0, len(book.parents) - 1) and is_integer(label)


def check_clauses(book, thing):
    """Raises NoClauses for what is no clauses of the book."""
    if not isinstance(thing, tuple) or len(thing) > MOST_CLAUSES:
        raise NoClauses()
    if not all([is_clause(book, item) for item in thing]):
        raise NoClauses()


def first_met(clauses, mask):
    """The place of the first pair whose kind is in the mask, the number of all pairs if there is none."""
    for at, (kind, _) in enumerate(clauses):
        if mask >> kind & 1:
            return at
    return len(clauses)


def label_at(clauses, at):
    """The label of the pair at this place, None behind the last one."""
    return clauses[at][1] if at < len(clauses) else None


def label_of(book, clauses, x):
    """The label that the clauses tell of a kind, or None."""
    check_clauses(book, clauses)
    check_kind(book, x)
    return label_at(clauses, first_met(clauses, book.above[x]))


def never_met(book, clauses):
    """The places of the pairs that are never the first one.

    Whatever is the kind of a pair is all that this kind is, so only this kind itself must be looked at.
    """
    check_clauses(book, clauses)
    return tuple([at for at, (kind, _) in enumerate(clauses) if first_met(clauses, book.above[kind]) < at])


def alike(book, one, other):
    """Whether both lists of clauses tell the same label of all kinds, also of those that still come."""
    return parting(book, one, other) is None


def parting(book, one, other):
    """The least lot of parents of a kind of which the lists of clauses tell unlike labels, or None.

    A kind to come is told its labels by two kinds that it is, one for each list: below these two alone it is told the
    same ones. Below one kind it is told what this one is told.
    """
    check_clauses(book, one)
    check_clauses(book, other)
    ones = [first_met(one, mask) for mask in book.above]
    others = [first_met(other, mask) for mask in book.above]
    kinds = range(len(book.parents))
    for kind in kinds:
        if label_at(one, ones[kind]) != label_at(other, others[kind]):
            return (kind,)
    for a in kinds:
        for b in range(a + 1, len(ones)):
            label = label_at(one, min(ones[a], ones[b]))
            if label != label_at(other, min(others[a], others[b])):
                return a, b
    return None
