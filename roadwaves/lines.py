"""Broken lines: rows of corners (x, y), pairs of fractions with ascending x, straight from corner to corner.

Behind its last corner a line stays level. But for is_corner, nothing is checked here.
"""

from roadwaves.rationals import ZERO, greater, is_at_most, is_below, is_fraction, lesser, minus, over, plus, times


def is_corner(value):
    """Whether a value, whatever it is, is a pair of fractions."""
    return isinstance(value, tuple) and len(value) == 2 and is_fraction(value[0]) and is_fraction(value[1])


def slope_between(corner, following):
    """The change of y over the change of x from one corner to another one."""
    return over(minus(following[1], corner[1]), minus(following[0], corner[0]))


def slopes_of(line):
    """The slopes of the pieces of a line, in order."""
    return [slope_between(corner, following) for corner, following in zip(line, line[1:])]


def leading(rows, holds):
    """How many rows in front there are for which a test holds; behind them it holds for none."""
    low, high = 0, len(rows)
    while low < high:
        middle = (low + high) // 2
        if holds(rows[middle]):
            low = middle + 1
        else:
            high = middle
    return low


def last_corner_up_to(line, x):
    """The index of the last corner of a line whose x is not above the one given, or 0."""
    return max(leading(line, lambda corner: is_at_most(corner[0], x)) - 1, 0)


def height_at(line, x):
    """The y of a line at an x that is not below that of its first corner."""
    at = last_corner_up_to(line, x)
    corner = line[at]
    if at == len(line) - 1:
        return corner[1]
    return plus(corner[1], times(slope_between(corner, line[at + 1]), minus(x, corner[0])))


def first_reach(line, height):
    """The first x at which the y of a line is at least the height; None if it nowhere is."""
    for at, corner in enumerate(line):
        if is_at_most(height, corner[1]):
            return corner[0] if at == 0 else place_between(line[at - 1], corner, height)
    return None


def place_between(corner, following, height):
    """The x at which the straight piece from one corner to another one, not level, has the height."""
    return plus(corner[0], over(minus(height, corner[1]), slope_between(corner, following)))


def bends_of(corners):
    """The corners of a line without those between two pieces of one slope."""
    kept = [corners[0]]
    for corner, following in zip(corners[1:], corners[2:]):
        if slope_between(kept[-1], corner) != slope_between(corner, following):
            kept.append(corner)
    if len(corners) > 1:
        kept.append(corners[-1])
    return kept


def gap_at(line, other, x):
    """How much the first line is above the second one."""
    return minus(height_at(line, x), height_at(other, x))


def with_crossings(line, other, places):
    """The places, ascending, and those between two neighbours of them at which two lines cross.

    Both lines are straight between the neighbours.
    """
    gaps = [gap_at(line, other, place) for place in places]
    met = [places[0]]
    for at in range(1, len(places)):
        before, behind = gaps[at - 1], gaps[at]
        if is_below(times(before, behind), ZERO):
            share = over(before, minus(before, behind))
            met.append(plus(places[at - 1], times(share, minus(places[at], places[at - 1]))))
        met.append(places[at])
    return met


def lesser_line(line, other, places):
    """The lesser one of two lines, from the first of the places to the last one, as a list of corners.

    The places, ascending, have all corners of both lines that lie between.
    """
    met = with_crossings(line, other, places)
    return bends_of([(place, lesser(height_at(line, place), height_at(other, place))) for place in met])


def greater_line(line, other, places):
    """The greater one of two lines, from the first of the places to the last one, told as lesser_line tells."""
    met = with_crossings(line, other, places)
    return bends_of([(place, greater(height_at(line, place), height_at(other, place))) for place in met])
