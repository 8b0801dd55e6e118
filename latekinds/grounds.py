"""Grounds: kinds that bring fields, with what each was given and where its fields lie."""

from latekinds.grouping import Grouping
from latekinds.stacking import Stacking
from latekinds.standing import Standing


class Arms:
    """Where the fields lie: the kinds that bring some are numbered on, and told slots of their own, the arms.

    `brought` tells for each kind the mask of those that bring fields among all that it is, by these numbers.
    """

    def __init__(self):
        self.grouping = Grouping()
        self.stacking = Stacking()
        self.brought = []

    def copied(self):
        """Another one of the same kinds that goes on apart."""
        twin = Arms()
        twin.grouping = self.grouping.copied()
        twin.stacking = self.stacking.copied()
        twin.brought = list(self.brought)
        return twin

    def take(self, parents, many):
        """Lays the fields of the next kind, so many."""
        mask = 0
        for parent in parents:
            mask |= self.brought[parent]
        arm = None
        if many > 0:
            mask |= 1 << len(self.grouping.slots)
            arm = self.grouping.take(mask)
        self.brought.append(mask)
        self.stacking.take(parents, arm, many)


class Ground:
    """The `standing` of all kinds, the tuple `fields` of how many each brings, and the `arms`; it never changes."""

    def __init__(self):
        self.standing = Standing()
        self.fields = ()
        self.arms = Arms()

    def followed_by(self, parents, many):
        """The ground with one kind more, which brings so many fields."""
        after = Ground()
        after.standing = self.standing.followed_by(parents)
        after.fields = self.fields + (many,)
        after.arms = self.arms.copied()
        after.arms.take(parents, many)
        return after
