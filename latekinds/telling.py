"""What rows tell: by a scheme alone, right or not."""

from latekinds.masks import members
from latekinds.schemes import check_known, check_scheme, said_mask


def check_both(scheme, x, y):
    """Raises NoScheme, then NoKind for each."""
    check_scheme(scheme)
    check_known(scheme, x)
    check_known(scheme, y)


def lot_of(scheme, x):
    """The lot of the kinds that the scheme says x is."""
    check_scheme(scheme)
    check_known(scheme, x)
    return members(said_mask(scheme, x))


def common(scheme, x, y):
    """The lot of the kinds that the scheme says both are."""
    check_both(scheme, x, y)
    return members(said_mask(scheme, x) & said_mask(scheme, y))


def meet(scheme, x, y):
    """The lesser one of both entries, slot by slot, as far as both rows go."""
    check_both(scheme, x, y)
    return tuple([min(one, other) for one, other in zip(scheme[x][2], scheme[y][2])])
