"""Kinds of road: concave broken lines that tell the flow at each density, and the tolls of steps."""

from roadwaves.errors import InvalidContent, InvalidDensity, InvalidFlow, InvalidFraction, InvalidKind
from roadwaves.errors import InvalidSpeed, NoStep, TooMany
from roadwaves.lines import first_reach, height_at, is_corner, lesser_line, slopes_of
from roadwaves.rationals import ZERO, greatest, is_ascending, is_at_most, is_below, is_content, is_fraction
from roadwaves.rationals import is_fraction_within, merged, minus, plus, times

FEWEST_CORNERS = 3
MOST_CORNERS = 12


def is_kind(value):
    """Whether a value, whatever it is, is a kind of road."""
    if not isinstance(value, tuple) or not FEWEST_CORNERS <= len(value) <= MOST_CORNERS:
        return False
    if not all([is_corner(corner) for corner in value]):
        return False
    if value[0] != (ZERO, ZERO) or value[-1][1] != ZERO:
        return False
    if not is_ascending([corner[0] for corner in value]):
        return False
    # Flows that bend down everywhere between two flows of 0 are above 0, so this needs no look of its own.
    return is_ascending(slopes_of(value)[::-1])


def flow_at(kind, density):
    """The flow of the kind at a density."""
    check_kind(kind)
    if not is_fraction_within(density, ZERO, kind[-1][0]):
        raise InvalidDensity(density)
    return height_at(kind, density)


def speeds_of(kind):
    """The speeds of the kind, from the free one to the back one."""
    check_kind(kind)
    return tuple(slopes_of(kind))


def top_flow(kind):
    """The greatest flow of the kind."""
    check_kind(kind)
    return greatest([corner[1] for corner in kind])


def densities_with(kind, flow):
    """The least and the greatest density with this flow; None for a flow above the top."""
    check_kind(kind)
    if not is_content(flow):
        raise InvalidFlow(flow)
    least = first_reach(kind, flow)
    if least is None:
        return None
    return (least, minus(kind[-1][0], first_reach(turned_line(kind), flow)))


def toll(kind, distance, duration):
    """The toll of a step by a distance and a duration."""
    check_kind(kind)
    check_fraction(distance)
    if not is_content(duration):
        raise InvalidContent(duration)
    if not is_step(kind, distance, duration):
        raise NoStep()
    return greatest([minus(times(flow, duration), times(density, distance)) for density, flow in kind])


def toll_rate(kind, speed):
    """The toll of a step with this speed for each unit of time."""
    check_kind(kind)
    speeds = slopes_of(kind)
    if not is_fraction_within(speed, speeds[-1], speeds[0]):
        raise InvalidSpeed(speed)
    return greatest([minus(flow, times(density, speed)) for density, flow in kind])


def lanes(kind, other):
    """Both kinds side by side, as one kind."""
    check_kind(kind)
    check_kind(other)
    speeds = merged(slopes_of(kind)[::-1], slopes_of(other)[::-1])[::-1]
    corners = [(ZERO, ZERO)]
    for speed in speeds:
        density, flow = corner_behind(kind, speed)
        more_density, more_flow = corner_behind(other, speed)
        corners.append((plus(density, more_density), plus(flow, more_flow)))
    check_corners(corners)
    return tuple(corners)


def lesser_kind(kind, other):
    """The kind that has the lesser flow of both at each density that both have."""
    check_kind(kind)
    check_kind(other)
    shorter, longer = (kind, other) if is_at_most(kind[-1][0], other[-1][0]) else (other, kind)
    densities = [corner[0] for corner in shorter]
    within = [corner[0] for corner in longer if is_below(corner[0], densities[-1])]
    corners = lesser_line(shorter, longer, merged(densities, within))
    check_corners(corners)
    return tuple(corners)


def turned_kind(kind):
    """The kind turned round: at each density the flow that the first one has at what is left to the full one."""
    check_kind(kind)
    return turned_line(kind)


def check_kind(value):
    """Raise the error that is told for a parameter that has to be a kind."""
    if not is_kind(value):
        raise InvalidKind(value)


def check_fraction(value):
    """Raise the error that is told for a parameter that has to be a fraction."""
    if not is_fraction(value):
        raise InvalidFraction(value)


def check_corners(corners):
    """Raise the error that is told for a kind that would have too many corners."""
    if len(corners) > MOST_CORNERS:
        raise TooMany(len(corners))


def turned_line(kind):
    """The line of a kind from its full density back to 0."""
    full = kind[-1][0]
    return tuple([(minus(full, density), flow) for density, flow in kind[::-1]])


def is_step(kind, distance, duration):
    """Whether the kind lets a step by this distance and duration."""
    speeds = slopes_of(kind)
    return is_fraction_within(distance, times(duration, speeds[-1]), times(duration, speeds[0]))


def corner_behind(kind, speed):
    """The first corner of a kind behind all pieces with at least this speed."""
    for at, slope in enumerate(slopes_of(kind)):
        if is_below(slope, speed):
            return kind[at]
    return kind[-1]
