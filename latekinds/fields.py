"""Fields without holes: places for the fields of all kinds on so many arms, or the ring of quarrels that bars it."""

from latekinds.checks import is_integer, is_number
from latekinds.errors import NoFields, NoLaying, NoNumber, TooMany
from latekinds.hueing import hues_by
from latekinds.masks import members
from latekinds.quarrelling import odd_ring_of, pieces_of, quarrel_masks
from latekinds.stacking import Stacking

MOST_FIELDS = 6
MOST_ARMS = 6
MOST_QUARRELLING = 40


def is_fields(book, thing):
    """Whether it is a tuple with a number of fields for each kind."""
    if not isinstance(thing, tuple) or len(thing) != len(book.parents):
        return False
    return all([is_number(many, 0, MOST_FIELDS) for many in thing])


def check_fields(book, thing):
    """Raises NoFields for what is no fields of the book."""
    if not is_fields(book, thing):
        raise NoFields()


def check_arms(book, fields, arms):
    """Raises NoFields for no fields, then NoNumber for no number of arms."""
    check_fields(book, fields)
    if not is_number(arms, 1, MOST_ARMS):
        raise NoNumber()


def is_place(thing, arms):
    """Whether it is a pair of an arm below so many and an index."""
    if not isinstance(thing, tuple) or len(thing) != 2:
        return False
    arm, index = thing
    return is_number(arm, 0, arms - 1) and is_integer(index) and index >= 0


def is_any_laying(fields, arms, thing):
    """Whether it is a laying with so many arms, full or not."""
    if not isinstance(thing, tuple) or len(thing) != len(fields):
        return False
    for many, row in zip(fields, thing):
        if not isinstance(row, tuple) or len(row) != many:
            return False
        if not all([is_place(place, arms) for place in row]):
            return False
    return True


def is_laying(book, fields, arms, thing):
    """Whether it is a full laying with so many arms."""
    check_arms(book, fields, arms)
    return is_any_laying(fields, arms, thing) and least_hole(book, thing) is None


def first_hole(book, fields, laying):
    """The least triple (kind, arm, index) of a place that an object has twice, or that lacks, or None."""
    check_fields(book, fields)
    if not is_any_laying(fields, MOST_ARMS, laying):
        raise NoLaying()
    return least_hole(book, laying)


def least_hole(book, places):
    """What first_hole tells, of a laying."""
    for kind, mask in enumerate(book.above):
        hole = hole_among(sorted([place for brought in members(mask) for place in places[brought]]))
        if hole is not None:
            return kind, hole[0], hole[1]
    return None


def hole_among(places):
    """The least place that stands twice among the ascending ones, or lacks below another one on its arm, or None."""
    arm = 0
    following = 0
    for here, index in places:
        if here != arm:
            arm = here
            following = 0
        if index != following:
            return arm, min(index, following)
        following += 1
    return None


def quarrels(book, fields):
    """The pairs of kinds that quarrel, ascending."""
    check_fields(book, fields)
    masks = quarrel_masks(book, fields)
    return [(a, b) for a, mask in enumerate(masks) for b in members(mask) if a < b]


def hues(book, fields, arms):
    """A hue for each kind, unlike ones for two that quarrel, or None."""
    check_arms(book, fields, arms)
    masks = quarrel_masks(book, fields)
    if len([mask for mask in masks if mask]) > MOST_QUARRELLING:
        raise TooMany(MOST_QUARRELLING)
    return hues_by(masks, arms)


def is_hues(book, fields, arms, thing):
    """Whether it is a tuple with a hue for each kind, unlike ones for two that quarrel."""
    check_arms(book, fields, arms)
    if not isinstance(thing, tuple) or len(thing) != len(fields):
        return False
    if not all([is_number(hue, 0, arms - 1) for hue in thing]):
        return False
    return all([thing[a] != thing[b] for a, b in quarrels(book, fields)])


def laying(book, fields, arms):
    """A full laying, or None: the fields of each kind on the arm of its hue."""
    found = hues(book, fields, arms)
    if found is None:
        return None
    stacking = Stacking()
    for parents, arm, many in zip(book.parents, found, fields):
        stacking.take(parents, arm, many)
    return tuple(stacking.places)


def odd_ring(book, fields):
    """A list of an odd number of kinds, each quarrelling with the next one, the last one with the first, or None."""
    check_fields(book, fields)
    return odd_ring_of(quarrel_masks(book, fields))


def is_odd_ring(book, fields, thing):
    """Whether it is such a list of three kinds or more."""
    check_fields(book, fields)
    if not isinstance(thing, list) or len(thing) < 3 or len(thing) & 1 == 0:
        return False
    if not all([is_number(kind, 0, len(fields) - 1) for kind in thing]):
        return False
    masks = quarrel_masks(book, fields)
    return all([masks[thing[at - 1]] >> kind & 1 for at, kind in enumerate(thing)])


def count_layings(book, fields):
    """The number of full layings with two arms.

    The fields of a kind that quarrels all lie on one arm, which the others of its piece leave it; those of another kind
    lie on both, in any order.
    """
    check_fields(book, fields)
    masks = quarrel_masks(book, fields)
    if odd_ring_of(masks) is not None:
        return 0
    found = 1 << len(pieces_of(masks))
    for many, mask in zip(fields, masks):
        for factor in range(2, many + (1 if mask else 2)):
            found *= factor
    return found
