"""The told rule: what it gives to kinds that come one behind another."""

from latekinds.grouping import Grouping, grouping_of


def placed(book):
    """The slots that the told rule gives, kind by kind."""
    return tuple(grouping_of(book).slots)


def groups(book):
    """The groups, from group 1 on, each by its slots."""
    return grouping_of(book).told_groups()


def told_scheme(book):
    """What the told rule gives: a slot, a number and a row for each kind."""
    grouping = Grouping()
    scheme = []
    for mask, parents in zip(book.above, book.parents):
        grouping.take(mask)
        scheme.append(last_triple(grouping, [scheme[parent][2] for parent in parents]))
    return tuple(scheme)


def last_triple(grouping, rows):
    """What the last kind is given; rows are those of its parents."""
    slot = grouping.slots[-1]
    number = grouping.slots.count(slot)
    row = greatest(rows, len(grouping.lasts))
    row[slot] = number
    return slot, number, tuple(row)


def greatest(rows, many):
    """A list of so many entries, each the greatest one that stands there in one of the rows, 0 for none.

    A kind is just those first kinds of a slot that one of its parents is, so it is as many as the parent that is most.
    """
    found = [0] * many
    for row in rows:
        for slot, entry in enumerate(row):
            found[slot] = max(found[slot], entry)
    return found
