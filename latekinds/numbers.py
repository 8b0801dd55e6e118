"""Two numbers for each kind: whether they are enough to tell who is what, or the chain of forces that bars it."""

from latekinds.checks import is_number
from latekinds.errors import TooMany
from latekinds.masks import lowest, masks_below, members

MOST_KINDS_ORDERED = 40


def sides_of(book):
    """For each kind the mask of the kinds side by side with it."""
    whole = (1 << len(book.parents)) - 1
    return [whole & ~(above | below) for above, below in zip(book.above, masks_below(book.parents))]


def check_few(book):
    """Raises TooMany for a book that is not searched through."""
    if len(book.parents) > MOST_KINDS_ORDERED:
        raise TooMany(MOST_KINDS_ORDERED)


def forced(sides, pair):
    """All pairs that the pair forces, where only those that sides tells count as pairs side by side."""
    a, b = pair
    seconds = sides[a] & ~sides[b] & ~(1 << b)
    firsts = sides[b] & ~sides[a] & ~(1 << a)
    return [(a, c) for c in members(seconds)] + [(c, b) for c in members(firsts)]


def forced_from(sides, first):
    """A dict of all pairs to which forces lead from the first one: the pair ahead of each, None for the first."""
    ahead = {first: None}
    found = [first]
    done = 0
    while done < len(found):
        pair = found[done]
        done += 1
        for other in forced(sides, pair):
            if other not in ahead:
                ahead[other] = pair
                found.append(other)
    return ahead


def two_orders(book):
    """Two orders of the book, or None.

    Of two kinds side by side one is to stand ahead in the first order, the other one in the second. A pair so turned
    turns all that it forces; these are then put aside, and the others forced as if they alone were side by side.
    """
    check_few(book)
    sides = sides_of(book)
    turned = [0 for _ in sides]
    for a in range(len(sides)):
        while sides[a]:
            b = lowest(sides[a])
            together = forced_from(sides, (a, b))
            if (b, a) in together:
                return None
            for one, other in together:
                turned[other] |= 1 << one
                sides[one] &= ~(1 << other)
                sides[other] &= ~(1 << one)
    return order_by(book, turned), order_by(book, turned_back(turned))


def turned_back(turned):
    """The masks of the same pairs the other way round."""
    back = [0 for _ in turned]
    for kind, mask in enumerate(turned):
        for other in members(mask):
            back[other] |= 1 << kind
    return back


def order_by(book, turned):
    """The order in which each kind stands behind its forebears and those of its mask, and nobody else."""
    places = [len(members(above | mask)) for above, mask in zip(book.above, turned)]
    return tuple(sorted(range(len(places)), key=lambda kind: places[kind]))


def is_two_orders(book, thing):
    """Whether it is two orders of the book."""
    if not isinstance(thing, tuple) or len(thing) != 2:
        return False
    one, other = thing
    many = len(book.parents)
    if not is_row_of_all(one, many) or not is_row_of_all(other, many):
        return False
    firsts = upto_masks(one)
    seconds = upto_masks(other)
    return all([firsts[kind] & seconds[kind] == above for kind, above in enumerate(book.above)])


def is_row_of_all(thing, many):
    """Whether it is a tuple of all integers from 0 below many, each once."""
    if not isinstance(thing, tuple) or len(thing) != many:
        return False
    there = 0
    for kind in thing:
        if not is_number(kind, 0, many - 1) or there >> kind & 1:
            return False
        there |= 1 << kind
    return True


def upto_masks(order):
    """For each kind the mask of itself and of the kinds that stand ahead of it."""
    masks = [0 for _ in order]
    there = 0
    for kind in order:
        there |= 1 << kind
        masks[kind] = there
    return masks


def forces(book):
    """A chain of forces of the book, or None."""
    check_few(book)
    sides = sides_of(book)
    seen = {}
    for a in range(len(sides)):
        for b in members(sides[a]):
            if (a, b) in seen or (b, a) in seen:
                continue
            ahead = forced_from(sides, (a, b))
            if (b, a) in ahead:
                return way_to((b, a), ahead)
            for pair in ahead:
                seen[pair] = True
    return None


def way_to(last, ahead):
    """The list of the pairs on the way to the last one."""
    way = []
    pair = last
    while pair is not None:
        way.append(pair)
        pair = ahead[pair]
    return way[::-1]


def is_forces(book, thing):
    """Whether it is a chain of forces of the book."""
    sides = sides_of(book)
    if not isinstance(thing, list) or not thing or not all([is_pair_aside(sides, item) for item in thing]):
        return False
    a, b = thing[0]
    if thing[-1] != (b, a):
        return False
    return all([is_forced(sides, thing[at - 1], thing[at]) for at in range(1, len(thing))])


def is_pair_aside(sides, thing):
    """Whether it is a pair of kinds side by side."""
    if not isinstance(thing, tuple) or len(thing) != 2:
        return False
    if not all([is_number(kind, 0, len(sides) - 1) for kind in thing]):
        return False
    a, b = thing
    return bool(sides[a] >> b & 1)


def is_forced(sides, pair, other):
    """Whether the pair forces the other one: a kind stays, the other gives way to an heir or a forebear."""
    a, b = pair
    c, d = other
    if a == c:
        return b != d and not sides[b] >> d & 1
    return b == d and not sides[a] >> c & 1
