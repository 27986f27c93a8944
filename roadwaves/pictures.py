"""Pictures: how the traffic of a scene looks at a place, at a moment, and to what moves."""

from roadwaves.counts import check_moment
from roadwaves.drawing import Drawing, drawing_of
from roadwaves.errors import InvalidAmount, InvalidSpeed
from roadwaves.lines import height_at
from roadwaves.rationals import ZERO, is_amount, is_fraction, is_fraction_within, plus, times
from roadwaves.scene_parts import tracks_of
from roadwaves.scenes import check_place, check_scene
from roadwaves.sections import counts_in, numbers_in, states_in, stretches_at
from roadwaves.waves import waves_between


def counts_at(scene, place):
    """The numbers at a place at all moments, as counts."""
    check_scene(scene)
    check_place(scene, place)
    return counts_in(drawing_of(scene), place)


def states_at(scene, place):
    """The tuple of (FROM, TO, RATE, BEHIND, AHEAD): how fast the number grows, and the densities on both sides."""
    check_scene(scene)
    check_place(scene, place)
    return tuple(states_in(drawing_of(scene), place))


def picture(scene, moment):
    """The tuple of (FROM, TO, DENSITY, FLOW) of the whole road at a moment."""
    check_scene(scene)
    check_moment(moment)
    stretches = stretches_at(Drawing(scene, moment), moment)
    return tuple([(begin, end, density, height_at(scene[0], density)) for begin, end, density in stretches])


def fronts(scene, moment):
    """The tuple of (PLACE, SPEED) of all fronts that go out just behind a moment."""
    check_scene(scene)
    check_moment(moment)
    barred = [track.place_at(moment) for track in tracks_of(scene[4]) if track.lasts_behind(moment)]
    stretches = stretches_at(Drawing(scene, moment), moment)
    found = []
    for (_, place, behind), (_, _, ahead) in zip(stretches, stretches[1:]):
        if place not in barred:
            found.extend([(place, wave[0]) for wave in waves_between(scene[0], behind, ahead)])
    return tuple(found)


def seen_from(scene, place, moment, speed, duration):
    """The numbers along what moves from a place and a moment on, as corners (DURATION, NUMBER)."""
    check_scene(scene)
    check_place(scene, place)
    check_moment(moment)
    if not is_fraction(speed):
        raise InvalidSpeed(speed)
    if not is_amount(duration):
        raise InvalidAmount(duration)
    if not is_fraction_within(plus(place, times(speed, duration)), ZERO, scene[1]):
        raise InvalidSpeed(speed)
    return tuple(numbers_in(Drawing(scene, plus(moment, duration)), place, moment, speed, duration))
