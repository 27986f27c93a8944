"""Cars: when each one comes, when it passes which place, and its course."""

from roadwaves.drawing import drawing_of
from roadwaves.errors import InvalidNumber
from roadwaves.lines import bends_of, first_reach
from roadwaves.rationals import ZERO, ascending_of, is_between, is_fraction_within, minus
from roadwaves.scene_parts import arrivals_line, start_line
from roadwaves.scenes import check_place, check_scene, last_number
from roadwaves.sections import counts_in, greatest_place, moments_of_car


def passing(scene, car, place):
    """The least moment at which a car has passed a place."""
    check_scene(scene)
    check_car(scene, car)
    check_place(scene, place)
    return first_reach(counts_in(drawing_of(scene), place), car)


def coming(scene, car):
    """The least moment at which a car has come ahead of the road; 0 if it stands on the road at the beginning."""
    check_scene(scene)
    check_car(scene, car)
    return moment_of_coming(scene, car)


def travel_time(scene, car):
    """How long it takes from when a car comes until it leaves the road."""
    check_scene(scene)
    check_car(scene, car)
    left = first_reach(counts_in(drawing_of(scene), scene[1]), car)
    return minus(left, moment_of_coming(scene, car))


def course(scene, car):
    """The corners (MOMENT, PLACE) of the course of a car."""
    check_scene(scene)
    check_car(scene, car)
    drawing = drawing_of(scene)
    entered = first_reach(counts_in(drawing, ZERO), car)
    left = first_reach(counts_in(drawing, scene[1]), car)
    within = [moment for moment in moments_of_car(drawing, car) if is_between(moment, entered, left)]
    moments = ascending_of([entered] + within + [left])
    return tuple(bends_of([(moment, greatest_place(drawing, car, moment)) for moment in moments]))


def last_out(scene):
    """The least moment from which on nobody is on the road or ahead of it."""
    check_scene(scene)
    return first_reach(counts_in(drawing_of(scene), scene[1]), last_number(scene))


def moment_of_coming(scene, car):
    """The least moment at which as many wait or have come ahead of the road as a car's number tells."""
    return first_reach(arrivals_line(scene[3]), car)


def is_car(scene, value):
    """Whether a value is a car of a scene."""
    return is_fraction_within(value, start_line(scene[2])[-1][1], last_number(scene))


def check_car(scene, value):
    """Raise the error that is told for a parameter that has to be a car of a scene."""
    if not is_car(scene, value):
        raise InvalidNumber(value)
