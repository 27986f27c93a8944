"""Scenes: a road of one kind, how cars stand on it, how they come, and what bars them."""

from roadwaves.counts import check_moment
from roadwaves.drawing import Drawing
from roadwaves.errors import InvalidAmount, InvalidPlace, InvalidScene, RoadError, TooMany
from roadwaves.kinds import check_kind
from roadwaves.lines import height_at
from roadwaves.rationals import ZERO, is_amount, is_fraction_within, minus
from roadwaves.scene_parts import MOST_PIECES, arrivals_line, bars_behind, check_bars, check_beginning, check_comings
from roadwaves.scene_parts import comings_behind, start_line
from roadwaves.sections import stretches_at


def is_scene(value):
    """Whether a value, whatever it is, is a scene."""
    if not isinstance(value, tuple) or len(value) != 5:
        return False
    try:
        scene_of(*value)
    except RoadError:
        return False
    return True


def scene_of(kind, length, beginning, comings, bars):
    """The scene of these parts."""
    check_kind(kind)
    check_length(length)
    check_beginning(kind, length, beginning)
    check_comings(comings)
    check_bars(kind, length, bars)
    return (kind, length, beginning, comings, bars)


def start_number(scene, place):
    """The number at a place at the moment 0."""
    check_scene(scene)
    check_place(scene, place)
    return height_at(start_line(scene[2]), place)


def comings_number(scene, moment):
    """How many cars wait or have come ahead of the road up to a moment."""
    check_scene(scene)
    check_moment(moment)
    return height_at(arrivals_line(scene[3]), moment)


def all_cars(scene):
    """The number of the last car that ever comes."""
    check_scene(scene)
    return last_number(scene)


def begun_anew(scene, moment):
    """The scene with what is so at a moment as its beginning."""
    check_scene(scene)
    check_moment(moment)
    kind, length, _, comings, bars = scene
    drawing = Drawing(scene, moment)
    stretches = stretches_at(drawing, moment)
    if len(stretches) > MOST_PIECES:
        raise TooMany(len(stretches))
    beginning = tuple([(minus(end, begin), density) for begin, end, density in stretches])
    waiting = minus(height_at(arrivals_line(comings), moment), drawing.number_told(ZERO, moment))
    return (kind, length, beginning, (waiting, comings_behind(comings, moment)), bars_behind(bars, moment))


def last_number(scene):
    """The number of the last car of a scene that ever comes."""
    return arrivals_line(scene[3])[-1][1]


def check_length(value):
    """Raise the error that is told for a parameter that has to be a length of a road."""
    if not is_amount(value):
        raise InvalidAmount(value)


def check_scene(value):
    """Raise the error that is told for a parameter that has to be a scene."""
    if not is_scene(value):
        raise InvalidScene(value)


def check_place(scene, value):
    """Raise the error that is told for a parameter that has to be a place of a scene's road."""
    if not is_fraction_within(value, ZERO, scene[1]):
        raise InvalidPlace(value)
