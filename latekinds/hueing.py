"""Hues: one for each kind that quarrels, unlike ones for two that quarrel, found by trying."""

from latekinds.masks import members
from latekinds.quarrelling import whole_mask


class Hueing:
    """Gives hues to kinds, the most bound one first.

    `held` tells for each hue the mask of the kinds that have it, `way` the triples (kind, hue, blamed) in the order in
    which the hues were given. A kind for which no hue is left blames for each hue a kind that bars it. Only another
    hue of one that is blamed can help, so the way back leads to the last such one, over all others.
    """

    def __init__(self, masks, arms):
        self.masks = masks
        self.held = [0] * arms
        self.left = whole_mask(masks)
        self.way = []

    def is_done(self):
        """Gives hues as long as kinds are left; False if there are none for all."""
        while self.left:
            blamed = self.take(self.most_bound(), 0, 0)
            while blamed is not None:
                if not self.way:
                    return False
                kind, hue, elder = self.way.pop()
                self.held[hue] ^= 1 << kind
                self.left |= 1 << kind
                if blamed >> kind & 1:
                    blamed = self.take(kind, hue + 1, elder | blamed ^ (1 << kind))
        return True

    def most_bound(self):
        """The kind without a hue that is barred from most hues, and among these quarrels with most without one."""
        best = None
        for kind in members(self.left):
            barred = len([mask for mask in self.held if mask & self.masks[kind]])
            here = (barred, len(members(self.masks[kind] & self.left)), -kind)
            if best is None or here > best:
                best = here
        return -best[2]

    def take(self, kind, first, blamed):
        """Gives the kind the first hue from there on that is not barred; None, or who is blamed that there is none.

        Hues that nobody has yet are all alike, so the first of them is enough.
        """
        many = len([mask for mask in self.held if mask])
        for hue in range(first, min(many + 1, len(self.held))):
            if not self.held[hue] & self.masks[kind]:
                self.held[hue] |= 1 << kind
                self.left ^= 1 << kind
                self.way.append((kind, hue, blamed))
                return None
        return blamed | self.barring(kind)

    def barring(self, kind):
        """The mask of the kinds that bar the kind from hues, for each hue the first one to which it was given."""
        found = 0
        seen = set()
        for other, hue, _ in self.way:
            if self.masks[kind] >> other & 1 and hue not in seen:
                seen.add(hue)
                found |= 1 << other
        return found


def hues_by(masks, arms):
    """A hue for each kind, 0 for those that quarrel with none; None if the arms are too few."""
    hueing = Hueing(masks, arms)
    if not hueing.is_done():
        return None
    found = [0] * len(masks)
    for kind, hue, _ in hueing.way:
        found[kind] = hue
    return tuple(found)
