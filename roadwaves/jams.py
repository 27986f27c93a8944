"""Jams: where and when cars go slower than with the free speed."""

from roadwaves.counts import check_moment
from roadwaves.drawing import Drawing, drawing_of
from roadwaves.rationals import ZERO, greatest, is_between, least
from roadwaves.scenes import check_place, check_scene
from roadwaves.sections import states_in, stretches_at
from roadwaves.waves import is_jam


def jammed_places(scene, moment):
    """The stretches of places that are jammed at a moment, as pairs (FROM, TO) that touch nowhere."""
    check_scene(scene)
    check_moment(moment)
    return places_in_jam(scene, moment)


def jammed_moments(scene, place):
    """The stretches of time in which a place is jammed, as pairs (FROM, TO) that touch nowhere."""
    check_scene(scene)
    check_place(scene, place)
    states = states_in(drawing_of(scene), place)
    # Behind the place 0 is no road.
    side = 4 if place == ZERO else 3
    return joined([(state[0], state[1]) for state in states if is_jam(scene[0], state[side])])


def is_jammed(scene, place, moment):
    """Whether a place is in the jam of a moment."""
    check_scene(scene)
    check_place(scene, place)
    check_moment(moment)
    return any([is_between(place, first, last) for first, last in places_in_jam(scene, moment)])


def last_jam(scene):
    """The least moment behind which no place is jammed; None if none ever is."""
    check_scene(scene)
    ends = [path.end for path in jam_ends(scene)]
    return greatest(ends) if ends else None


def jam_reach(scene):
    """The greatest place such that at no lesser one there ever is jam; None if there is none at all."""
    check_scene(scene)
    places = []
    for path in jam_ends(scene):
        places.extend([path.place_at(path.birth), path.place_at(path.end)])
    return least(places) if places else None


def places_in_jam(scene, moment):
    """The stretches of places of a scene that are jammed at a moment."""
    stretches = stretches_at(Drawing(scene, moment), moment)
    return joined([(first, last) for first, last, density in stretches if is_jam(scene[0], density)])


def jam_ends(scene):
    """The paths of a scene ahead of which there is jam: the ends from which it goes on."""
    return [path for path in drawing_of(scene).ever if is_jam(scene[0], path.ahead)]


def joined(stretches):
    """Stretches (FROM, TO), in order, with those made one that touch."""
    found = []
    for first, last in stretches:
        if found and found[-1][1] == first:
            found[-1] = (found[-1][0], last)
        else:
            found.append((first, last))
    return tuple(found)
