"""Rows: each kind linked with the next one of its row, so that as few rows as can be are left.

A row goes on with one kind at most, and a kind stands behind one at most, so the links pair forebears with heirs.
Pairs are the most if no new one can be won by turning links about along a way, which is searched for each kind.
"""

from latekinds.masks import lowest, members


class Linking:
    """Takes the kinds of a book one by one; `after` and `before` tell the neighbours in the rows, or None."""

    def __init__(self, book):
        self.higher = [mask ^ (1 << kind) for kind, mask in enumerate(book.above)]
        self.after = []
        self.before = []
        self.last_ones = 0

    def take(self):
        """Takes the next kind in; tells whether the rows are one more than they were."""
        kind = len(self.after)
        self.after.append(None)
        self.before.append(None)
        end, came = self.search(kind)
        if end is not None:
            self.turn_about(end, came)
        self.last_ones |= 1 << kind
        return end is None

    def search(self, kind):
        """The pair of a last kind of a row, None if no way leads to one, and the dict of the ways from the kind.

        The dict tells of each forebear on a way which kind is to stand behind it.
        """
        came = {}
        unseen = (1 << kind) - 1
        pending = [kind]
        while pending:
            heir = pending.pop()
            ahead = self.higher[heir] & unseen
            free = ahead & self.last_ones
            if free:
                end = lowest(free)
                came[end] = heir
                return end, came
            unseen ^= ahead
            for forebear in members(ahead):
                came[forebear] = heir
                pending.append(self.after[forebear])
        return None, came

    def turn_about(self, end, came):
        """Links all along the way that ends here."""
        self.last_ones ^= 1 << end
        forebear = end
        while forebear is not None:
            heir = came[forebear]
            elder = self.before[heir]
            self.after[forebear] = heir
            self.before[heir] = forebear
            forebear = elder


def linked(book):
    """The links of all kinds of a book."""
    links = Linking(book)
    for _ in book.parents:
        links.take()
    return links
