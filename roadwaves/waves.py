"""Waves: what goes out from a place where two densities meet, with a bar that begins or stays there or without."""

from roadwaves.lines import first_reach, height_at, slope_between
from roadwaves.rationals import greatest, is_at_most, is_below, lesser, minus, times


def waves_between(kind, left, right):
    """The waves that go out where two densities meet, by speeds: triples (SPEED, BEHIND, AHEAD)."""
    if left == right:
        return []
    densities = [left, right]
    if is_below(right, left):
        densities = [left] + corners_between(kind, right, left)[::-1] + [right]
    points = [(density, height_at(kind, density)) for density in densities]
    return [(slope_between(one, other), one[0], other[0]) for one, other in zip(points, points[1:])]


def corners_between(kind, low, high):
    """The densities of the corners of a kind that are between two densities, ascending."""
    return [corner[0] for corner in kind if is_below(low, corner[0]) and is_below(corner[0], high)]


def waves_at_bar(kind, left, right, speed, rate):
    """The waves that go out where two densities meet on a bar, the bar among them."""
    if is_at_most(freely_passing(kind, left, right, speed), rate):
        waves = waves_between(kind, left, right)
        behind = [wave for wave in waves if is_below(wave[0], speed)]
        ahead = [wave for wave in waves if is_below(speed, wave[0])]
        before = behind[-1][2] if behind else left
        beyond = ahead[0][1] if ahead else right
        return behind + [(speed, before, beyond)] + ahead
    least, most = densities_past(kind, speed, rate)
    return waves_between(kind, left, most) + [(speed, most, least)] + waves_between(kind, least, right)


def flow_past(kind, density, speed):
    """How many cars of a density get past what moves with a speed, for each unit of time."""
    return minus(height_at(kind, density), times(speed, density))


def freely_passing(kind, left, right, speed):
    """How many cars get past what moves with a speed from where two densities meet, if it holds up nobody."""
    ends = [flow_past(kind, left, speed), flow_past(kind, right, speed)]
    if is_at_most(left, right):
        return lesser(ends[0], ends[1])
    return greatest(ends + [flow_past(kind, density, speed) for density in corners_between(kind, right, left)])


def densities_past(kind, speed, rate):
    """The least and the greatest density of which just the rate gets past what moves with a speed."""
    full = kind[-1][0]
    line = [(density, minus(flow, times(speed, density))) for density, flow in kind]
    turned = [(minus(full, density), flow) for density, flow in line[::-1]]
    return first_reach(line, rate), minus(full, first_reach(turned, rate))


def density_coming(kind, flow):
    """The density with which a flow comes in from where cars go freely."""
    return first_reach(kind, flow)


def is_jam(kind, density):
    """Whether a density is jammed; None, off the road, is not."""
    return density is not None and is_below(kind[1][0], density)
