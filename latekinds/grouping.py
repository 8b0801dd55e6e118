"""The told rule, kind by kind: slots in groups, the i-th of at most i slots."""

from latekinds.masks import members


class Grouping:
    """What was given so far: `slots` of the kinds, `lasts` (the last kind of each slot) and `grouped`.

    Group i stands at i - 1, in `grouped` by its slots, in `ends` by the mask of their last kinds.
    """

    def __init__(self):
        self.slots = []
        self.lasts = []
        self.grouped = []
        self.ends = []

    def copied(self):
        """Another one of the same kinds that goes on apart."""
        twin = Grouping()
        twin.slots = list(self.slots)
        twin.lasts = list(self.lasts)
        twin.grouped = [list(group) for group in self.grouped]
        twin.ends = list(self.ends)
        return twin

    def take(self, above):
        """Gives the next kind a slot and tells it; `above` is the mask of all that this kind is."""
        kind = len(self.slots)
        at = self.first_fitting(above)
        fitting = [self.slots[last] for last in members(self.ends[at] & above)]
        if fitting:
            slot = min(fitting)
            self.grouped[at].remove(slot)
            self.ends[at] ^= 1 << self.lasts[slot]
            self.lasts[slot] = kind
        else:
            slot = len(self.lasts)
            self.lasts.append(kind)
        if at > 0:
            self.grouped[at - 1], self.grouped[at] = self.grouped[at], self.grouped[at - 1]
            self.ends[at - 1], self.ends[at] = self.ends[at], self.ends[at - 1]
        self.grouped[at].append(slot)
        self.ends[at] |= 1 << kind
        self.slots.append(slot)
        return slot

    def first_fitting(self, above):
        """Where the first group stands that has room for a slot, or one that may be given."""
        at = 0
        while at < len(self.grouped):
            if len(self.grouped[at]) < at + 1 or self.ends[at] & above:
                return at
            at += 1
        self.grouped.append([])
        self.ends.append(0)
        return at

    def told_groups(self):
        """The groups, from group 1 on, each by its slots.

        The last one is never empty: it was begun for a slot, and goes without one only where a group behind gets it.
        """
        return tuple([tuple(sorted(group)) for group in self.grouped])


def grouping_of(book):
    """What the told rule gives to all kinds of a book."""
    grouping = Grouping()
    for mask in book.above:
        grouping.take(mask)
    return grouping
