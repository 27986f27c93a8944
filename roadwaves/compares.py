"""Kinds compared: whether a kind of road never lets fewer cars by than another one."""

from roadwaves.kinds import check_kind
from roadwaves.lines import gap_at, slopes_of
from roadwaves.rationals import ZERO, greatest, is_at_most, lesser, merged, minus, over, times
from roadwaves.scenes import check_length

HALF = (1, 2)


def never_less(kind, other):
    """Whether the flow of a kind is at least that of the other one at each density that both have."""
    check_kind(kind)
    check_kind(other)
    return density_less(kind, other) is None


def bare_density(kind, other):
    """A density that both kinds have at which the flow of the first one is less; None if there is none."""
    check_kind(kind)
    check_kind(other)
    return density_less(kind, other)


def parting_scene(kind, other, length):
    """A tuple (BEGINNING, PLACE, MOMENT) with which the number there is less with the first kind; None."""
    check_kind(kind)
    check_kind(other)
    check_length(length)
    density = density_less(kind, other)
    if density is None:
        return None
    # Up to this moment nothing that starts at an end of the road has come to its middle.
    place = times(length, HALF)
    slopes = slopes_of(kind) + slopes_of(other)
    fastest = greatest(slopes + [minus(ZERO, slope) for slope in slopes])
    return (((length, density),), place, over(place, fastest))


def density_less(kind, other):
    """A corner's density that both kinds have at which the flow of the first one is less; None if there is none."""
    last = lesser(kind[-1][0], other[-1][0])
    densities = merged([corner[0] for corner in kind], [corner[0] for corner in other])
    for density in densities:
        if is_at_most(density, last) and gap_at(kind, other, density)[0] < 0:
            return density
    return None
