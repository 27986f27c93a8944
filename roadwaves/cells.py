"""Cells: numbers at places a fixed distance apart, told again a fixed duration later."""

from roadwaves.errors import InvalidAmount, InvalidNumber, InvalidRow, TooMany
from roadwaves.kinds import check_kind
from roadwaves.least_ways import step_toll
from roadwaves.lines import height_at, slopes_of
from roadwaves.rationals import ZERO, ceiling_of, floor_of, halfway, is_amount, is_between, is_fraction
from roadwaves.rationals import is_whole, least, minus, over, plus, times

FEWEST_PLACES = 2
MOST_PLACES = 40
MOST_STEPS = 20


def cells_fit(kind, dx, dt):
    """Whether cells tell the true numbers for all rows and any number of steps."""
    check_cells(kind, dx, dt)
    return unfit_piece(kind, dx, dt) is None


def cell_step(kind, dx, dt, row):
    """The numbers by cells a step later."""
    check_cells(kind, dx, dt)
    check_row(kind, dx, row)
    return stepped_by_cells(kind, dx, dt, row)


def true_step(kind, dx, dt, row):
    """The true numbers a step later."""
    check_cells(kind, dx, dt)
    check_row(kind, dx, row)
    line = list(zip(places_of(row, dx), row))
    found = []
    for at in indexes_left(kind, dx, dt, len(row)):
        place = times(dx, (at, 1))
        told = numbers_over(kind, dt, place, line)
        for speed in slopes_of(kind):
            origin = minus(place, times(speed, dt))
            told.append(plus(height_at(line, origin), step_toll(kind, minus(place, origin), dt)))
        found.append(least(told))
    return tuple(found)


def cell_run(kind, dx, dt, row, count):
    """The numbers by cells so many steps later; () once too few are left to go on."""
    check_cells(kind, dx, dt)
    check_row(kind, dx, row)
    if not is_whole(count) or not 0 <= count <= MOST_STEPS:
        raise InvalidNumber(count)
    for _ in range(count):
        if len(row) < FEWEST_PLACES:
            return ()
        row = stepped_by_cells(kind, dx, dt, row)
    return row


def unlike_row(kind, dx, dt):
    """A row of which a step by cells and a true one tell unlike numbers; None if there is none."""
    check_cells(kind, dx, dt)
    piece = unfit_piece(kind, dx, dt)
    if piece is None:
        return None
    # The shortest row of which one place is left; its least way there starts between two of its places.
    speeds = slopes_of(kind)
    share = over(dt, dx)
    many = ceiling_of(times(speeds[0], share)) - floor_of(times(speeds[-1], share)) + 1
    if many > MOST_PLACES:
        raise TooMany(many)
    density = halfway(kind[piece][0], kind[piece + 1][0])
    return tuple([times(density, times(dx, (-at, 1))) for at in range(many)])


def unfit_piece(kind, dx, dt):
    """The index of the first piece of a kind with whose speed a step leads to no whole place; None."""
    for at, speed in enumerate(slopes_of(kind)):
        if over(times(speed, dt), dx)[1] != 1:
            return at
    return None


def stepped_by_cells(kind, dx, dt, row):
    """The numbers by cells a step later, of a row that is not checked."""
    line = list(zip(places_of(row, dx), row))
    found = []
    for at in indexes_left(kind, dx, dt, len(row)):
        found.append(least(numbers_over(kind, dt, times(dx, (at, 1)), line)))
    return tuple(found)


def numbers_over(kind, dt, place, line):
    """The numbers at a place a step later by way of each place of a row from which a step is let."""
    speeds = slopes_of(kind)
    back, free = times(speeds[-1], dt), times(speeds[0], dt)
    found = []
    for origin, number in line:
        distance = minus(place, origin)
        if is_between(distance, back, free):
            found.append(plus(number, step_toll(kind, distance, dt)))
    return found


def places_of(row, dx):
    """The places of a row."""
    return [times(dx, (at, 1)) for at in range(len(row))]


def indexes_left(kind, dx, dt, many):
    """The indexes of the places all of whose cars surely come from within a row of so many places."""
    speeds = slopes_of(kind)
    share = over(dt, dx)
    return list(range(ceiling_of(times(speeds[0], share)), many + floor_of(times(speeds[-1], share))))


def check_cells(kind, dx, dt):
    """Raise the errors that are told for a kind, a distance and a duration of cells."""
    check_kind(kind)
    if not is_amount(dx):
        raise InvalidAmount(dx)
    if not is_amount(dt):
        raise InvalidAmount(dt)


def check_row(kind, dx, value):
    """Raise the error that is told for a parameter that has to be a row."""
    if not isinstance(value, tuple) or not FEWEST_PLACES <= len(value) <= MOST_PLACES:
        raise InvalidRow(None)
    most = times(kind[-1][0], dx)
    for at, number in enumerate(value):
        if not is_fraction(number):
            raise InvalidRow(at)
        if at > 0 and not is_between(minus(value[at - 1], number), ZERO, most):
            raise InvalidRow(at)
