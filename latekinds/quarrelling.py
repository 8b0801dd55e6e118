"""Quarrels: kinds that bring fields, lie side by side and have a common heir, so that no arm can hold both."""

from latekinds.masks import masks_below, members


def quarrel_masks(book, fields):
    """For each kind the mask of the kinds that it quarrels with."""
    bringing = 0
    for kind, many in enumerate(fields):
        if many > 0:
            bringing |= 1 << kind
    masks = []
    for kind, below in enumerate(masks_below(book.parents)):
        together = 0
        if bringing >> kind & 1:
            for heir in members(below):
                together |= book.above[heir]
        masks.append(together & bringing & ~below & ~book.above[kind])
    return masks


def whole_mask(masks):
    """The mask of all kinds that quarrel."""
    found = 0
    for kind, mask in enumerate(masks):
        if mask:
            found |= 1 << kind
    return found


def pieces_of(masks):
    """The pieces in which the quarrelling kinds hang together, each a list of pairs (kind, steps).

    A piece begins with its least kind; `steps` is how many quarrels lead to a kind from there at least.
    """
    left = whole_mask(masks)
    found = []
    while left:
        piece = []
        edge = left & -left
        steps = 0
        while edge:
            left ^= edge
            reach = 0
            for kind in members(edge):
                piece.append((kind, steps))
                reach |= masks[kind]
            edge = reach & left
            steps += 1
        found.append(piece)
    return found


def odd_ring_of(masks):
    """A list of an odd number of kinds each of which quarrels with the next one, the last one with the first; or None.

    Two kinds of one piece that quarrel lie one step apart, counted from its first kind, or none: then both ways back
    to where they meet are as long, and with the quarrel a ring of an odd number.
    """
    for piece in pieces_of(masks):
        level = {}
        for kind, steps in piece:
            level[steps] = level.get(steps, 0) | 1 << kind
        for kind, steps in piece:
            beside = masks[kind] & level[steps]
            if beside:
                other = members(beside)[0]
                return closed_ring(masks, level, steps, [kind], [other])
    return None


def closed_ring(masks, level, steps, one_way, other_way):
    """The ring of both ways, led back step by step until they meet."""
    while one_way[-1] != other_way[-1]:
        steps -= 1
        one_way.append(members(masks[one_way[-1]] & level[steps])[0])
        other_way.append(members(masks[other_way[-1]] & level[steps])[0])
    return one_way + other_way[-2::-1]
