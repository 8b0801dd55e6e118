"""Orders: trees, which need as many slots as width, and the best and the worst way to load few kinds."""

from latekinds.books import reordered
from latekinds.errors import NotTree, TooMany
from latekinds.rule import placed

MOST_ORDERED = 7


def tree_placed(book):
    """The slots if a kind goes on with its parent's slot where it can."""
    slots = []
    lasts = []
    for kind, parents in enumerate(book.parents):
        if len(parents) > 1:
            raise NotTree(kind)
        slot = slots[parents[0]] if parents else None
        if slot is not None and lasts[slot] == parents[0]:
            lasts[slot] = kind
        else:
            slot = len(lasts)
            lasts.append(kind)
        slots.append(slot)
    return tuple(slots)


def best_order(book):
    """The least number of slots that the told rule gives in some order, and the least such order."""
    return min(counted_orders(book))


def worst_order(book):
    """The greatest number of slots that the told rule gives in some order, and the least such order."""
    return min(counted_orders(book), key=lambda counted: (-counted[0], counted[1]))


def counted_orders(book):
    """The pairs of how many slots the told rule gives in an order, and the order, for all orders."""
    if len(book.parents) > MOST_ORDERED:
        raise TooMany(MOST_ORDERED)
    return [(len(set(placed(reordered(book, order)))), order) for order in all_orders(book)]


def all_orders(book):
    """All orders in which each kind stands behind its parents, ascending."""
    orders = [()]
    for _ in book.parents:
        orders = [order + (kind,) for order in orders for kind in next_kinds(book, order)]
    return orders


def next_kinds(book, order):
    """The kinds that may stand right behind this beginning of an order, ascending."""
    there = 0
    for kind in order:
        there |= 1 << kind
    return [kind for kind, mask in enumerate(book.above) if mask & ~there == 1 << kind]
