"""Sections through the drawing of a scene: along a moment, along a place, and along what moves with one speed."""

from roadwaves.counts import counts_through
from roadwaves.lines import bends_of, height_at, leading
from roadwaves.rationals import ZERO, ascending_of, halfway, is_at_most, minus, over, plus, times
from roadwaves.waves import flow_past

ONE = (1, 1)


def stretches_at(drawing, moment):
    """The triples (FROM, TO, DENSITY) of the road at a moment; neighbours have unlike densities."""
    row = drawing.row_at(moment)
    places = [path.place_at(moment) for path in row]
    found = []
    for at, path in enumerate(row[:-1]):
        if places[at] == places[at + 1]:
            continue
        if found and found[-1][2] == path.ahead:
            found[-1] = (found[-1][0], places[at + 1], path.ahead)
        else:
            found.append((places[at], places[at + 1], path.ahead))
    return found


def moments_on_line(drawing, place, speed, first, last):
    """The moments from the first to the last one, both among them, at which a mover may come to another density.

    The place is that at which the mover would be at the moment 0; with None as the last moment there is no end.
    """
    found = [first] if last is None else [first, last]
    for path in drawing.ever:
        found.extend(moments_on_path(path, place, speed))
    found = [moment for moment in found if is_at_most(first, moment) and (last is None or is_at_most(moment, last))]
    return ascending_of(found)


def moments_on_path(path, place, speed):
    """The moment at which a mover meets a path; both ends of the path if they go together."""
    nearing = minus(speed, path.speed)
    if nearing != ZERO:
        moment = over(minus(path.offset, place), nearing)
        return [moment] if path.lasts_at(moment) else []
    if path.offset != place:
        return []
    return [path.birth] if path.end is None else [path.birth, path.end]


def states_in(drawing, place):
    """The tuples (FROM, TO, RATE, BEHIND, AHEAD) of a place; TO of the last one is None."""
    moments = moments_on_line(drawing, place, ZERO, ZERO, None)
    found = []
    for at, moment in enumerate(moments):
        following = moments[at + 1] if at + 1 < len(moments) else None
        within = plus(moment, ONE) if following is None else halfway(moment, following)
        behind, ahead = drawing.sides_at(place, within)
        rate = height_at(drawing.kind, ahead if behind is None else behind)
        if found and found[-1][2:] == (rate, behind, ahead):
            found[-1] = (found[-1][0], following, rate, behind, ahead)
        else:
            found.append((moment, following, rate, behind, ahead))
    return found


def counts_in(drawing, place):
    """The numbers at a place as counts."""
    corners = [(ZERO, drawing.number_told(place, ZERO))]
    for first, last, rate, _, _ in states_in(drawing, place):
        if last is not None:
            corners.append((last, plus(corners[-1][1], times(rate, minus(last, first)))))
    return counts_through(corners)


def numbers_in(drawing, place, moment, speed, duration):
    """The corners (DURATION, NUMBER) of the numbers along what moves from a place and moment on."""
    offset = minus(place, times(speed, moment))
    moments = moments_on_line(drawing, offset, speed, moment, plus(moment, duration))
    corners = [(ZERO, drawing.number_told(place, moment))]
    for one, other in zip(moments, moments[1:]):
        within = halfway(one, other)
        behind, ahead = drawing.sides_at(plus(offset, times(speed, within)), within)
        rate = flow_past(drawing.kind, ahead if behind is None else behind, speed)
        corners.append((minus(other, moment), plus(corners[-1][1], times(rate, minus(other, one)))))
    return bends_of(corners)


def moments_of_car(drawing, car):
    """The moments at which a car may come to another density, in order of the paths."""
    found = []
    for path in drawing.ever:
        if path.rate != ZERO:
            moment = plus(path.birth, over(minus(car, path.number), path.rate))
            if path.lasts_at(moment):
                found.append(moment)
        elif path.number == car:
            found.extend([path.birth] if path.end is None else [path.birth, path.end])
    return found


def greatest_place(drawing, car, moment):
    """The greatest place at which the number at a moment is at least a car's, if there is any."""
    row = drawing.row_at(moment)
    many = leading(row, lambda path: is_at_most(car, path.number_when(moment)))
    if many == len(row):
        return drawing.length
    path = row[many - 1]
    return plus(path.place_at(moment), over(minus(path.number_when(moment), car), path.ahead))
