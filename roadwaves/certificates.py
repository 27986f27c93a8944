"""Certificates: of two claims that exclude one another the one that is so, with a paper for the checker."""

from roadwaves.bars import parting_view
from roadwaves.books import barring_weights, check_both, fitting_numbers
from roadwaves.cars import check_car
from roadwaves.cells import unlike_row
from roadwaves.compares import bare_density
from roadwaves.conditions import Conditions, number_extremes
from roadwaves.counts import check_moment
from roadwaves.errors import NoneFits
from roadwaves.frames import check_point
from roadwaves.jams import jam_ends
from roadwaves.kinds import check_fraction
from roadwaves.rationals import halfway, is_at_most, is_below
from roadwaves.rims import barring_pair
from roadwaves.scenes import check_place, check_scene
from roadwaves.ways import way_number, way_to


def certify_number(scene, place, moment, fraction):
    """That the number at a place and a moment is at most a fraction, or that it is more."""
    way = way_to(scene, place, moment)
    check_fraction(fraction)
    parts = (scene, place, moment, fraction)
    if is_at_most(way_number(scene, way), fraction):
        return (("at most",) + parts, way)
    return (("more",) + parts, ())


def certify_passing(scene, car, place, moment):
    """That a car has got to a place by a moment, or that it has not yet."""
    check_scene(scene)
    check_car(scene, car)
    check_place(scene, place)
    check_moment(moment)
    parts = (scene, car, place, moment)
    way = way_to(scene, place, moment)
    if is_below(way_number(scene, way), car):
        return (("not yet",) + parts, way)
    return (("gone by",) + parts, ())


def certify_jam(scene):
    """That a place of a scene is ever jammed, or that none is."""
    check_scene(scene)
    ends = jam_ends(scene)
    if not ends:
        return (("never jammed", scene), ())
    # Ahead of it there is jam all along.
    moment = halfway(ends[0].birth, ends[0].end)
    return (("ever jammed", scene), (ends[0].place_at(moment), moment))


def certify_bars(kind, length, bars, other):
    """That the first lot of bars lets cars never later than the other one, or that it lets them later."""
    view = parting_view(kind, length, bars, other)
    return decided(("never later", "later"), (kind, length, bars, other), view)


def certify_kinds(kind, other):
    """That a kind is never less than another one, or that it is less."""
    return decided(("never less", "less"), (kind, other), bare_density(kind, other))


def certify_cells(kind, dx, dt):
    """That cells tell the true numbers, or that they tell unlike ones."""
    return decided(("cells fit", "cells unlike"), (kind, dx, dt), unlike_row(kind, dx, dt))


def certify_rims(rims):
    """That rims can be, or that they can't."""
    return decided(("can be", "can't be"), (rims,), barring_pair(rims))


def certify_book(book, sights):
    """That some numbers fit a book and sights, or that these clash."""
    numbers = fitting_numbers(book, sights)
    if numbers is None:
        return (("clash", book, sights), barring_weights(book, sights))
    return (("fits", book, sights), numbers)


def certify_number_range(book, sights, place, moment, fraction, other):
    """That the number at a place and a moment is surely from a fraction to another one, or that this is not sure."""
    check_both(book, sights)
    check_point(book[1], book[2], place, moment)
    check_fraction(fraction)
    check_fraction(other)
    found = number_extremes(Conditions(book, sights), (place, moment))
    if found is None:
        raise NoneFits()
    least, greatest = found
    parts = (book, sights, place, moment, fraction, other)
    if is_below(least[0], fraction):
        return (("not sure",) + parts, least[1])
    if is_below(other, greatest[0]):
        return (("not sure",) + parts, greatest[1])
    return (("sure",) + parts, ())


def decided(words, parts, paper):
    """The first one of two claims with no paper, if there is none, or else the other one with the paper."""
    if paper is None:
        return ((words[0],) + parts, ())
    return ((words[1],) + parts, paper)
