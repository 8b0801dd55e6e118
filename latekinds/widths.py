"""How many kinds lie side by side, and the rows that hold all."""

from latekinds.checks import is_lot
from latekinds.errors import TooMany
from latekinds.linking import Linking, linked
from latekinds.masks import masks_below, members

MOST_LOTS = 500


class Climb:
    """The lots of width many kinds side by side, as masks: each has one kind of each row of a least dealing."""

    def __init__(self, book):
        links = linked(book)
        self.above = book.above
        self.below = masks_below(book.parents)
        self.after = links.after
        self.firsts = 0
        for kind, elder in enumerate(links.before):
            if elder is None:
                self.firsts |= 1 << kind

    def has_heir(self, kind, mask):
        """Whether an heir of the kind is in the mask."""
        return bool(self.below[kind] & mask & ~(1 << kind))

    def lowest_lot(self):
        """The lot whose kinds stand in their rows as far ahead as those of any."""
        moving = [kind for kind in members(self.firsts) if self.has_heir(kind, self.firsts)]
        return self.climbed(self.firsts, moving)

    def climbed(self, mask, moving):
        """The kinds of the mask when these have moved on along their rows; None if a row ends.

        A kind with an heir among the others must move on too: they only ever move on, to heirs of that heir.
        """
        pending = list(moving)
        while pending:
            kind = pending.pop()
            if not mask >> kind & 1:
                continue
            heir = self.after[kind]
            if heir is None:
                return None
            mask ^= 1 << kind
            pending.extend(members(self.above[heir] & mask))
            mask |= 1 << heir
            if self.has_heir(heir, mask):
                pending.append(heir)
        return mask


def widths(book):
    """The widths of the beginnings of the book, from no kinds to all."""
    links = Linking(book)
    found = [0]
    for _ in book.parents:
        found.append(found[-1] + (1 if links.take() else 0))
    return tuple(found)


def width(book):
    """The greatest number of kinds side by side."""
    return widths(book)[-1]


def widest(book):
    """The least lot of width many kinds side by side.

    In each row its kind stands ahead of those of the other such lots, so it has the lesser number.
    """
    return members(Climb(book).lowest_lot())


def dealing(book):
    """The kinds in as few rows as can be, each but the first of a row being an heir of the one ahead."""
    links = linked(book)
    rows = []
    for first, elder in enumerate(links.before):
        if elder is None:
            row = []
            kind = first
            while kind is not None:
                row.append(kind)
                kind = links.after[kind]
            rows.append(tuple(row))
    return tuple(rows)


def is_dealing(book, thing):
    """Whether it is a dealing of the book, of any number of rows."""
    if not isinstance(thing, tuple):
        return False
    there = 0
    for row in thing:
        if not is_row(book, row):
            return False
        for kind in row:
            if there >> kind & 1:
                return False
            there |= 1 << kind
    return there == (1 << len(book.parents)) - 1


def is_row(book, thing):
    """Whether it is a lot of one kind or more, each but the first being an heir of the one ahead."""
    if not is_lot(thing, len(book.parents)) or not thing:
        return False
    return all([book.above[thing[at]] >> thing[at - 1] & 1 for at in range(1, len(thing))])


def is_side_by_side(book, thing):
    """Whether it is a lot of kinds none of which is an heir of another one."""
    if not is_lot(thing, len(book.parents)):
        return False
    there = 0
    for kind in thing:
        if book.above[kind] & there:
            return False
        there |= 1 << kind
    return True


def all_widest(book):
    """All lots of width many kinds side by side, ascending.

    From the lowest one each is reached by steps in which one kind moves on and others no further than they must.
    """
    climb = Climb(book)
    found = [climb.lowest_lot()]
    seen = set()
    done = 0
    while done < len(found):
        lot = found[done]
        done += 1
        for kind in members(lot):
            higher = climb.climbed(lot, [kind])
            if higher is not None and higher not in seen:
                seen.add(higher)
                found.append(higher)
        if len(found) > MOST_LOTS:
            raise TooMany(MOST_LOTS)
    return sorted([members(mask) for mask in found])
