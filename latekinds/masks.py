"""Masks: sets of kinds as integers, the bit with the number of a kind being 1 if it is in the set."""


def lowest(mask):
    """The least kind of a mask that is not empty."""
    return (mask & -mask).bit_length() - 1


def members(mask):
    """The lot of the kinds of a mask."""
    found = []
    while mask:
        kind = lowest(mask)
        found.append(kind)
        mask ^= 1 << kind
    return tuple(found)


def masks_above(parents):
    """For each kind the mask of all that it is, itself among them."""
    found = []
    for kind, row in enumerate(parents):
        mask = 1 << kind
        for parent in row:
            mask |= found[parent]
        found.append(mask)
    return tuple(found)


def masks_below(parents):
    """For each kind the mask of all kinds that are one, itself among them."""
    found = [1 << kind for kind in range(len(parents))]
    for kind in reversed(range(len(parents))):
        for parent in parents[kind]:
            found[parent] |= found[kind]
    return tuple(found)
