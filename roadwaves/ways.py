"""Ways: how the number at a place and a moment comes about, and how many wait or are on the road."""

from roadwaves.counts import check_moment
from roadwaves.errors import InvalidWay
from roadwaves.least_ways import WayFinder, finder_up_to, least_way, step_toll
from roadwaves.lines import height_at
from roadwaves.rationals import ZERO, is_below, is_content, is_fraction_within, minus, plus, times
from roadwaves.scenes import check_place, check_scene


def number_at(scene, place, moment):
    """How many cars have gone by at a place and a moment."""
    check_scene(scene)
    check_place(scene, place)
    check_moment(moment)
    return least_number(scene, place, moment)


def way_to(scene, place, moment):
    """A least way to a place and a moment, as points (WORD, PLACE, MOMENT)."""
    check_scene(scene)
    check_place(scene, place)
    check_moment(moment)
    return least_way(finder_up_to(scene, moment), place, moment)[1]


def way_number(scene, way):
    """The number of a way."""
    check_scene(scene)
    finder = WayFinder(scene)
    if not isinstance(way, tuple) or not way or not all([is_point(scene, point) for point in way]):
        raise InvalidWay(way)
    if way[0][0] != "start" or ZERO not in way[0][1:]:
        raise InvalidWay(way)
    number = number_of_start(finder, way[0][1], way[0][2])
    for point, following in zip(way, way[1:]):
        toll = toll_to(finder, point, following)
        if toll is None:
            raise InvalidWay(way)
        number = plus(number, toll)
    return number


def waiting_at(scene, moment):
    """How many cars wait ahead of the road at a moment."""
    check_scene(scene)
    check_moment(moment)
    finder = finder_up_to(scene, moment)
    return minus(height_at(finder.arrivals, moment), least_way(finder, ZERO, moment)[0])


def on_road(scene, moment):
    """How many cars are on the road at a moment."""
    check_scene(scene)
    check_moment(moment)
    finder = finder_up_to(scene, moment)
    return minus(least_way(finder, ZERO, moment)[0], least_way(finder, finder.length, moment)[0])


def least_number(scene, place, moment):
    """The number at a place and a moment of a scene."""
    return least_way(finder_up_to(scene, moment), place, moment)[0]


def is_point(scene, value):
    """Whether a value is a word, a place of a scene's road and a moment."""
    if not isinstance(value, tuple) or len(value) != 3 or not isinstance(value[0], str):
        return False
    return is_fraction_within(value[1], ZERO, scene[1]) and is_content(value[2])


def number_of_start(finder, place, moment):
    """The number of a way that starts at a place at the moment 0, or at the place 0 and a later moment."""
    return height_at(finder.starts, place) if moment == ZERO else height_at(finder.arrivals, moment)


def toll_to(finder, point, following):
    """What it costs to come from a point of a way to the following one; None if it can't be come to."""
    word, place, moment = following
    if word == "step":
        distance, duration = minus(place, point[1]), minus(moment, point[2])
        return step_toll(finder.kind, distance, duration) if finder.has_step(distance, duration) else None
    if word == "ride" and is_below(point[2], moment):
        for track in finder.tracks:
            if track.has(point[1], point[2]) and track.has(place, moment):
                return times(track.rate, minus(moment, point[2]))
    return None
