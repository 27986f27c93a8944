"""Rims: what the numbers on three sides of a road's picture have to be like, and what they settle between them."""

from roadwaves.counts import counts_through, is_counts
from roadwaves.drawing import Drawing
from roadwaves.errors import InvalidBeginning, InvalidMoment, InvalidRims, NoneFits, TooMany
from roadwaves.frames import check_point
from roadwaves.kinds import is_kind
from roadwaves.rationals import ZERO, is_amount, is_at_most, is_below, plus
from roadwaves.rim_lines import RimLines
from roadwaves.scene_parts import check_beginning, start_line
from roadwaves.scenes import check_scene
from roadwaves.sections import numbers_in

MOST_CORNERS = 40


def is_rims(value):
    """Whether a value, whatever it is, is rims."""
    if not isinstance(value, tuple) or len(value) != 6:
        return False
    kind, length, beginning, coming_in, going_out, last = value
    if not is_kind(kind) or not is_amount(length) or not is_beginning(kind, length, beginning):
        return False
    if not is_amount(last):
        return False
    return is_side(coming_in, ZERO, last) and is_side(going_out, start_line(beginning)[-1][1], last)


def can_be(rims):
    """Whether some traffic has the numbers of rims."""
    check_rims(rims)
    return pair_barring(rims) is None


def barring_pair(rims):
    """A pair of points of rims between which more cars would go by than any traffic lets; None."""
    check_rims(rims)
    return pair_barring(rims)


def inner_number(rims, place, moment):
    """The number at a place and a moment that rims settle."""
    check_inner(rims, place, moment)
    return least_source(rims, place, moment)[0]


def inner_start(rims, place, moment):
    """A point of rims from which the number at a place and a moment comes."""
    check_inner(rims, place, moment)
    return least_source(rims, place, moment)[1]


def rims_of(scene, last):
    """The rims of the traffic of a scene up to a last moment."""
    check_scene(scene)
    if not is_amount(last):
        raise InvalidMoment(last)
    kind, length, beginning, _, _ = scene
    drawing = Drawing(scene, last)
    sides = [counts_through(numbers_in(drawing, place, ZERO, ZERO, last)) for place in (ZERO, length)]
    many = max([len(side) for side in sides])
    if many > MOST_CORNERS:
        raise TooMany(many)
    return (kind, length, beginning, sides[0], sides[1], last)


def is_beginning(kind, length, value):
    """Whether a value is a beginning of a road."""
    try:
        check_beginning(kind, length, value)
    except InvalidBeginning:
        return False
    return True


def is_side(value, first, last):
    """Whether a value is the counts at an end of a road, of the numbers from the first one on up to the last moment."""
    if not is_counts(value) or len(value) > MOST_CORNERS:
        return False
    return value[0][1] == first and is_at_most(value[-1][0], last)


def check_rims(value):
    """Raise the error that is told for a parameter that has to be rims."""
    if not is_rims(value):
        raise InvalidRims(value)


def check_inner(rims, place, moment):
    """Raise the errors that are told for rims and a place and moment between them."""
    check_rims(rims)
    check_point(rims[1], rims[5], place, moment)
    if pair_barring(rims) is not None:
        raise NoneFits()


def pair_barring(rims):
    """A barring pair of rims; None if there is none."""
    lines = RimLines(rims)
    for point, following, toll in lines.frame.steps():
        if lines.is_barring(point, following, toll):
            return (point, following)
    return None


def least_source(rims, place, moment):
    """The least number of all ways from a point of rims to a place and moment, and such a point."""
    lines = RimLines(rims)
    found = None
    for point, toll in lines.frame.sources((place, moment)):
        number = plus(lines.number_on(point), toll)
        if found is None or is_below(number, found[0]):
            found = (number, point)
    return found
