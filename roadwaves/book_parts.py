"""The parts of a book: checks of pieces and sights, the forms of what they tell, and the rims that numbers make.

A form, as straight_forms tells it, has one slope for each number of the book: the rates of IN and of OUT, and the
densities.
"""

from roadwaves.counts import counts_through
from roadwaves.errors import InvalidRow
from roadwaves.frames import Frame, frame_corners
from roadwaves.rationals import ZERO, greater, is_amount, is_at_most, is_below, is_content, is_fraction
from roadwaves.rationals import lesser, minus, plus, times, total_of
from roadwaves.scene_parts import arrivals_line
from roadwaves.straight_forms import form_less

MOST_SIGHTS = 6
SIDES = ("in", "out", "start")


class BookLines:
    """A book as a frame and the forms of the numbers along it."""

    def __init__(self, book):
        kind, length, last, pieces_in, pieces_out, pieces_start = book
        self.lots = (pieces_in, pieces_out, pieces_start)
        self.pieces = pieces_in + pieces_out + pieces_start
        ends_in, ends_out, places = [piece_ends(pieces) for pieces in self.lots]
        self.frame = Frame(kind, length, last, frame_corners(length, places, ends_in, ends_out))

    def cars_form(self, side, first, last):
        """The form of how many came in or went out between two moments, or stood between two places."""
        slopes = []
        for word, pieces in zip(SIDES, self.lots):
            slopes.extend(shares_of(pieces, first, last) if word == side else [ZERO] * len(pieces))
        return slopes, ZERO

    def number_form(self, point):
        """The form of the number at a point of the frame."""
        place, moment = point
        if place == ZERO:
            return self.cars_form("in", ZERO, moment)
        # Nobody has gone out by the moment 0, the only one that counts but at the end of the road.
        return form_less(self.cars_form("out", ZERO, moment), self.cars_form("start", ZERO, place))

    def way_form(self, point, toll):
        """The form of the number with which a step with a toll from a point of the frame comes anywhere."""
        slopes, constant = self.number_form(point)
        return slopes, plus(constant, toll)


def piece_ends(pieces):
    """Where the pieces of one side end, in order."""
    found = []
    for piece in pieces:
        found.append(plus(found[-1], piece[0]) if found else piece[0])
    return found


def shares_of(pieces, first, last):
    """How much of each piece of one side is between two moments or places."""
    found = []
    begin = ZERO
    for piece in pieces:
        end = plus(begin, piece[0])
        found.append(greater(ZERO, minus(lesser(end, last), greater(begin, first))))
        begin = end
    return found


def rims_with(book, numbers):
    """The rims of a book with some numbers for its pieces."""
    kind, length, last, pieces_in, pieces_out, pieces_start = book
    ahead, behind = len(pieces_in), len(pieces_in) + len(pieces_out)
    beginning = tuple([(piece[0], density) for piece, density in zip(pieces_start, numbers[behind:])])
    standing = total_of([times(width, density) for width, density in beginning])
    coming_in = counts_with(pieces_in, numbers[:ahead], ZERO)
    going_out = counts_with(pieces_out, numbers[ahead:behind], minus(ZERO, standing))
    return (kind, length, beginning, coming_in, going_out, last)


def counts_with(pieces, rates, number):
    """The counts that go on from a number with these rates."""
    return counts_through(arrivals_line((number, [(piece[0], rate) for piece, rate in zip(pieces, rates)])))


def is_lot(value, total):
    """Whether a value is the pieces of one side of a book, which reach so far."""
    if not isinstance(value, tuple) or not value or not all([is_piece(piece) for piece in value]):
        return False
    return total_of([piece[0] for piece in value]) == total


def is_piece(value):
    """Whether a value is an amount and two contents, the first one not above the second one."""
    return isinstance(value, tuple) and len(value) == 3 and is_amount(value[0]) and are_bounds(value[1], value[2])


def are_bounds(low, high):
    """Whether two values are contents, the first one not above the second one."""
    return is_content(low) and is_content(high) and is_at_most(low, high)


def check_sights(book, value):
    """Raise the error that is told for a parameter that has to be sights of a book."""
    if not isinstance(value, tuple) or not value:
        raise InvalidRow(None)
    for at, sight in enumerate(value):
        if at == MOST_SIGHTS or not is_sight(book, sight):
            raise InvalidRow(at)


def is_sight(book, value):
    """Whether a value is a sight of a book."""
    if not isinstance(value, tuple) or len(value) != 5:
        return False
    side, first, last, low, high = value
    if not is_side(side) or not is_sight_start(book, side, first) or not is_sight_end(book, side, first, last):
        return False
    return are_bounds(low, high)


def is_side(value):
    """Whether a value is the word for one of the sides of a book."""
    return isinstance(value, str) and value in SIDES


def is_sight_start(book, side, value):
    """Whether a value is where a sight of a side of a book may begin."""
    return is_content(value) and is_below(value, extent_of(book, side))


def is_sight_end(book, side, first, value):
    """Whether a value is where a sight that begins at the first place or moment may end."""
    return is_fraction(value) and is_below(first, value) and is_at_most(value, extent_of(book, side))


def extent_of(book, side):
    """How far a side of a book reaches, along the road or in time."""
    return book[1] if side == "start" else book[2]
