"""Books: rims that are known by bounds and by sights alone, and what is sure of all traffic that fits them."""

from roadwaves.book_parts import BookLines, check_sights, is_lot, is_side, is_sight_end, is_sight_start, rims_with
from roadwaves.conditions import Conditions, greatest_of, least_of, number_extremes, numbers_or_weights
from roadwaves.errors import InvalidBook, InvalidFraction, InvalidName, NoneFits
from roadwaves.frames import check_point
from roadwaves.kinds import is_kind
from roadwaves.rationals import is_amount, is_at_most, is_between, is_fraction_within
from roadwaves.rims import can_be
from roadwaves.straight_forms import value_of

MOST_PIECES = 8


def is_book(value):
    """Whether a value, whatever it is, is a book."""
    if not isinstance(value, tuple) or len(value) != 6:
        return False
    kind, length, last, pieces_in, pieces_out, pieces_start = value
    if not is_kind(kind) or not is_amount(length) or not is_amount(last):
        return False
    if not is_lot(pieces_in, last) or not is_lot(pieces_out, last) or not is_lot(pieces_start, length):
        return False
    if len(pieces_in) + len(pieces_out) + len(pieces_start) > MOST_PIECES:
        return False
    return all([is_at_most(high, kind[-1][0]) for _, _, high in pieces_start])


def is_fitting(book, sights, value):
    """Whether a value, whatever it is, is numbers that fit a book and sights."""
    check_both(book, sights)
    pieces = book[3] + book[4] + book[5]
    if not isinstance(value, tuple) or len(value) != len(pieces):
        return False
    if not all([is_fraction_within(number, low, high) for number, (_, low, high) in zip(value, pieces)]):
        return False
    lines = BookLines(book)
    for side, first, last, low, high in sights:
        if not is_between(value_of(lines.cars_form(side, first, last), value), low, high):
            return False
    return can_be(rims_with(book, value))


def fitting_numbers(book, sights):
    """Any numbers that fit a book and sights; None."""
    check_both(book, sights)
    return numbers_or_weights(Conditions(book, sights).all_kept())[0]


def barring_weights(book, sights):
    """Any weights by which the conditions add up to one number below 0; None if some numbers fit."""
    check_both(book, sights)
    return numbers_or_weights(Conditions(book, sights).all_kept())[1]


def clashing_sights(book, sights):
    """The indexes of the sights that clash, ascending."""
    check_both(book, sights)
    conditions = Conditions(book, sights)
    indexes = list(range(len(sights)))
    if is_any(conditions, indexes):
        return ()
    for index in range(len(sights) - 1, -1, -1):
        rest = [other for other in indexes if other != index]
        if not is_any(conditions, rest):
            indexes = rest
    return tuple(indexes)


def fitting_rims(book, sights):
    """The rims of a book with any numbers that fit."""
    numbers = fitting_numbers(book, sights)
    if numbers is None:
        raise NoneFits()
    return rims_with(book, numbers)


def number_range(book, sights, place, moment):
    """The least and the greatest number at a place and a moment over all numbers that fit."""
    check_both(book, sights)
    check_point(book[1], book[2], place, moment)
    found = number_extremes(Conditions(book, sights), (place, moment))
    if found is None:
        raise NoneFits()
    return (found[0][0], found[1][0])


def cars_range(book, sights, side, fraction, other):
    """The least and the greatest number of cars that a sight of a stretch would count over all numbers that fit."""
    check_both(book, sights)
    if not is_side(side):
        raise InvalidName(side)
    if not is_sight_start(book, side, fraction):
        raise InvalidFraction(fraction)
    if not is_sight_end(book, side, fraction, other):
        raise InvalidFraction(other)
    conditions = Conditions(book, sights)
    told, form = conditions.all_kept(), conditions.lines.cars_form(side, fraction, other)
    least = least_of(told, form)
    if least is None:
        raise NoneFits()
    return (least[0], greatest_of(told, form)[0])


def needless_sights(book, sights):
    """The indexes of the sights that all numbers keep which fit the other ones, ascending."""
    check_both(book, sights)
    conditions = Conditions(book, sights)
    indexes = list(range(len(sights)))
    if not is_any(conditions, indexes):
        raise NoneFits()
    if len(indexes) == 1:
        return ()
    return tuple([index for index in indexes if is_needless(conditions, index)])


def check_both(book, sights):
    """Raise the errors that are told for a book and its sights."""
    if not is_book(book):
        raise InvalidBook(book)
    check_sights(book, sights)


def is_any(conditions, indexes):
    """Whether some numbers fit with the sights of these indexes alone."""
    return numbers_or_weights(conditions.keeping(indexes))[0] is not None


def is_needless(conditions, index):
    """Whether all numbers that fit without a sight keep it."""
    side, first, last, low, high = conditions.sights[index]
    form = conditions.lines.cars_form(side, first, last)
    told = conditions.keeping([other for other in range(len(conditions.sights)) if other != index])
    return is_at_most(low, least_of(told, form)[0]) and is_at_most(greatest_of(told, form)[0], high)
