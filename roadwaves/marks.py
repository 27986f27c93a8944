"""Marked cars: how many of them have gone by at a place."""

from roadwaves.cars import is_car
from roadwaves.counts import counts_through
from roadwaves.drawing import drawing_of
from roadwaves.errors import InvalidMarks
from roadwaves.lines import first_reach, height_at
from roadwaves.rationals import ZERO, ascending_of, is_below, minus, plus
from roadwaves.scenes import check_place, check_scene
from roadwaves.sections import counts_in


def marked_counts(scene, marks, place):
    """The counts of the marked cars that have gone by a place."""
    check_scene(scene)
    check_marks(scene, marks)
    check_place(scene, place)
    gone = counts_in(drawing_of(scene), place)
    line = marked_line(marks)
    # The marked ones go by unlike the others only from and up to the ends of the marks.
    reached = [first_reach(gone, car) for car, _ in line]
    moments = ascending_of([moment for moment, _ in gone] + [moment for moment in reached if moment is not None])
    return counts_through([(moment, marked_below(line, height_at(gone, moment))) for moment in moments])


def marked_line(marks):
    """How many are marked below each car, as a line with a corner at each end of a mark."""
    corners = []
    many = ZERO
    for first, last in marks:
        if not corners or corners[-1][0] != first:
            corners.append((first, many))
        many = plus(many, minus(last, first))
        corners.append((last, many))
    return corners


def marked_below(line, number):
    """How many are marked below a number."""
    if not line or is_below(number, line[0][0]):
        return ZERO
    return height_at(line, number)


def check_marks(scene, value):
    """Raise the error that is told for what is no marks of a scene."""
    if not isinstance(value, tuple):
        raise InvalidMarks(None)
    for at, mark in enumerate(value):
        if not is_mark(scene, mark) or (at > 0 and is_below(mark[0], value[at - 1][1])):
            raise InvalidMarks(at)


def is_mark(scene, value):
    """Whether a value is a pair of cars of a scene, the first one below the second one."""
    if not isinstance(value, tuple) or len(value) != 2:
        return False
    return is_car(scene, value[0]) and is_car(scene, value[1]) and is_below(value[0], value[1])
