"""Contests: a rule against a loader who looks at what was given.

TOPS are kinds side by side that are loaded above bases, one top for each base in the end. A slot is a top's OWN if its
last kind is one that this top is, and that no other top is: nobody but heirs of this top may be given it. The loader
gets tops of which the first has one own slot, the second two, and so on: as many as 1 + 2 + .. in all.
"""

from latekinds.books import Book, loaded
from latekinds.checks import is_number


def lasts_of(slots):
    """The last kind of each slot, of slots that are right."""
    lasts = []
    for kind, slot in enumerate(slots):
        if slot == len(lasts):
            lasts.append(kind)
        else:
            lasts[slot] = kind
    return lasts


def is_right(book, slots, answer):
    """Whether the answer is a slot that may be given to the first kind without one."""
    lasts = lasts_of(slots)
    if not is_number(answer, 0, len(lasts)):
        return False
    return answer == len(lasts) or bool(book.above[len(slots)] >> lasts[answer] & 1)


class Contest:
    """Loads kinds into the book `grown` until the rule is wrong, or has given so many slots as are enough."""

    def __init__(self, rule, enough):
        self.rule = rule
        self.enough = enough
        self.grown = Book(())
        self.slots = ()
        self.over = False

    def load(self, parents):
        """Loads a kind, asks the rule, and tells the kind; nothing is done any more when it is over."""
        kind = len(self.slots)
        if not self.over:
            rule = self.rule
            self.grown = loaded(self.grown, parents)
            slot = rule(self.grown, self.slots)
            if is_right(self.grown, self.slots, slot):
                self.slots = self.slots + (slot,)
                self.over = len(lasts_of(self.slots)) >= self.enough
            else:
                self.over = True
        return kind

    def spread(self, bases):
        """Loads kinds above the bases, tuples of parents, till there are tops with 1, 2, .. own slots; tells the tops.

        Before level k the tops have 1, 2, .. k - 1 own slots, and from there on k. A kind above two tops with k takes
        no own slot of one of them: with these and its own it is a top with k + 1, as long as those behind it stay off
        that one. They spread above the other one and the tops ahead, and so are tops with 1, 2, .. k again.
        """
        tops = []
        for parents in bases:
            tops.append(self.load(parents))
        for level in range(1, len(bases)):
            for at in range(level, len(bases)):
                one, other = tops[level - 1], tops[at]
                joined = self.load((min(one, other), max(one, other)))
                if self.over:
                    return tops
                lower = one if self.goes_on_from(joined, one) else other
                again = self.spread([(top,) for top in tops[:level - 1] + [lower]])
                tops = again + tops[level:at] + [joined] + tops[at + 1:]
        return tops

    def goes_on_from(self, joined, top):
        """Whether the last kind that had the slot ahead of the joined one is one that the top is."""
        ahead = [kind for kind in range(joined) if self.slots[kind] == self.slots[joined]]
        return bool(ahead) and bool(self.grown.above[top] >> ahead[-1] & 1)
