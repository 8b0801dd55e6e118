"""The told rule: what it gives to kinds that come one behind another."""

from latekinds.grouping import Grouping, grouping_of


def placed(book):
    """The slots that the told rule gives, kind by kind."""
    return tuple(grouping_of(book).slots)


def groups(book):
    """The groups, from group 1 on, each by its slots.

    The last one is never empty: it was begun for a slot, and goes without one only where a group behind it gets it.
    """
    return tuple([tuple(sorted(group)) for group in grouping_of(book).grouped])


def told_scheme(book):
    """What the told rule gives: a slot, a number and a row for each kind."""
    grouping = Grouping()
    many = []
    scheme = []
    for kind, parents in enumerate(book.parents):
        slot = grouping.take(book.above[kind])
        if slot == len(many):
            many.append(0)
        many[slot] += 1
        row = greatest([scheme[parent][2] for parent in parents], len(many))
        row[slot] = many[slot]
        scheme.append((slot, many[slot], tuple(row)))
    return tuple(scheme)


def greatest(rows, many):
    """A list of so many entries, each the greatest one that stands there in one of the rows, 0 for none.

    A kind is just those first kinds of a slot that one of its parents is, so it is as many as the parent that is most.
    """
    found = [0] * many
    for row in rows:
        for slot, entry in enumerate(row):
            found[slot] = max(found[slot], entry)
    return found
