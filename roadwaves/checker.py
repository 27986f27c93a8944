"""The checker: whether a paper shows that a claim is so.

Whatever a claim and a paper are: where a part is not right as it is told, an error of this package is raised on the
way, and the paper is not accepted.
"""

from roadwaves.bars import bars_from, never_later
from roadwaves.book_parts import rims_with
from roadwaves.books import check_both, is_fitting, number_range
from roadwaves.cars import check_car
from roadwaves.cells import cell_step, cells_fit, true_step
from roadwaves.compares import never_less
from roadwaves.counts import check_moment
from roadwaves.errors import InvalidWay, RoadError
from roadwaves.frames import check_point
from roadwaves.jams import is_jammed, last_jam
from roadwaves.kinds import check_fraction, flow_at
from roadwaves.lines import is_corner
from roadwaves.rationals import is_at_most, is_below, is_between
from roadwaves.rim_lines import RimLines
from roadwaves.rims import can_be, check_rims, inner_number
from roadwaves.scenes import check_place, check_scene, scene_of
from roadwaves.ways import number_at, way_number
from roadwaves.weights import are_weights


def accepts(claim, paper):
    """Whether a value, whatever it is, is a claim, and another one a paper that shows that it is so."""
    if not isinstance(claim, tuple) or not claim or not isinstance(claim[0], str) or claim[0] not in PARTS:
        return False
    if len(claim) != PARTS[claim[0]] + 1:
        return False
    shows = DECIDING[claim[0]]
    try:
        return shows(claim[1:], paper)
    except RoadError:
        return False


def shows_at_most(parts, paper):
    """Whether a paper is a way to a place and moment whose number is at most a fraction."""
    scene, place, moment, fraction = parts
    check_scene(scene)
    check_fraction(fraction)
    return is_at_most(number_of_way(scene, place, moment, paper), fraction)


def shows_more(parts, paper):
    """Whether the number at a place and moment is above a fraction."""
    scene, place, moment, fraction = parts
    number = number_at(scene, place, moment)
    check_fraction(fraction)
    return is_none(paper) and is_below(fraction, number)


def shows_gone_by(parts, paper):
    """Whether a car has got to a place by a moment."""
    scene, car, place, moment = parts
    number = number_at(scene, place, moment)
    check_car(scene, car)
    return is_none(paper) and is_at_most(car, number)


def shows_not_yet(parts, paper):
    """Whether a paper is a way to a place and moment whose number is below a car."""
    scene, car, place, moment = parts
    check_scene(scene)
    check_car(scene, car)
    return is_below(number_of_way(scene, place, moment, paper), car)


def shows_ever_jammed(parts, paper):
    """Whether a paper is a place and a moment at which it is in the jam of a scene."""
    return is_pair(paper) and is_jammed(parts[0], paper[0], paper[1])


def shows_never_jammed(parts, paper):
    """Whether no place of a scene is ever jammed."""
    return is_none(paper) and last_jam(parts[0]) is None


def shows_never_later(parts, paper):
    """Whether the first lot of bars lets cars never later than the other one."""
    kind, length, bars, other = parts
    return is_none(paper) and never_later(kind, length, bars, other)


def shows_later(parts, paper):
    """Whether a paper is a view in which the number is less with the first lot of bars."""
    kind, length, bars, other = parts
    if not isinstance(paper, tuple) or len(paper) != 5:
        return False
    moment, beginning, comings, place, later = paper
    lots = [bars_from(kind, length, lot, moment) for lot in (bars, other)]
    numbers = [number_at(scene_of(kind, length, beginning, comings, lot), place, later) for lot in lots]
    return is_below(numbers[0], numbers[1])


def shows_never_less(parts, paper):
    """Whether a kind is never less than another one."""
    return is_none(paper) and never_less(parts[0], parts[1])


def shows_less(parts, paper):
    """Whether a paper is a density that both kinds have, at which the flow of the first one is less."""
    return is_below(flow_at(parts[0], paper), flow_at(parts[1], paper))


def shows_cells_fit(parts, paper):
    """Whether cells tell the true numbers."""
    kind, dx, dt = parts
    return is_none(paper) and cells_fit(kind, dx, dt)


def shows_cells_unlike(parts, paper):
    """Whether a paper is a row of which a step by cells and a true one tell unlike numbers."""
    kind, dx, dt = parts
    return cell_step(kind, dx, dt, paper) != true_step(kind, dx, dt, paper)


def shows_can_be(parts, paper):
    """Whether rims can be."""
    return is_none(paper) and can_be(parts[0])


def shows_can_not_be(parts, paper):
    """Whether a paper is a pair of points that bars rims."""
    check_rims(parts[0])
    lines = RimLines(parts[0])
    if not is_pair(paper) or not all([is_corner(point) and lines.frame.has_point(point) for point in paper]):
        return False
    toll = lines.frame.toll_between(paper[0], paper[1])
    return toll is not None and lines.is_barring(paper[0], paper[1], toll)


def shows_fits(parts, paper):
    """Whether a paper is numbers that fit a book and sights."""
    return is_fitting(parts[0], parts[1], paper)


def shows_clash(parts, paper):
    """Whether a paper is weights that bar all numbers for a book and sights."""
    check_both(parts[0], parts[1])
    return are_weights(parts[0], parts[1], paper)


def shows_sure(parts, paper):
    """Whether some numbers fit, and with all of them the number at a place and moment is between two fractions."""
    book, sights, place, moment, low, high = parts
    least, greatest = number_range(book, sights, place, moment)
    check_fraction(low)
    check_fraction(high)
    return is_none(paper) and is_at_most(low, least) and is_at_most(greatest, high)


def shows_not_sure(parts, paper):
    """Whether a paper is numbers that fit with which the number at a place and moment is not between two fractions."""
    book, sights, place, moment, low, high = parts
    if not is_fitting(book, sights, paper):
        return False
    check_point(book[1], book[2], place, moment)
    check_fraction(low)
    check_fraction(high)
    return not is_between(inner_number(rims_with(book, paper), place, moment), low, high)


def number_of_way(scene, place, moment, way):
    """The number of a way to a place and a moment of a scene."""
    check_place(scene, place)
    check_moment(moment)
    number = way_number(scene, way)
    if way[-1][1:] != (place, moment):
        raise InvalidWay(way)
    return number


def is_none(paper):
    """Whether a paper is the one that stands where none is told."""
    return isinstance(paper, tuple) and not paper


def is_pair(paper):
    """Whether a paper is a pair."""
    return isinstance(paper, tuple) and len(paper) == 2


# How many parts each claim has behind its word.
PARTS = {
    "at most": 4,
    "more": 4,
    "gone by": 4,
    "not yet": 4,
    "ever jammed": 1,
    "never jammed": 1,
    "never later": 4,
    "later": 4,
    "never less": 2,
    "less": 2,
    "cells fit": 3,
    "cells unlike": 3,
    "can be": 1,
    "can't be": 1,
    "fits": 2,
    "clash": 2,
    "sure": 6,
    "not sure": 6,
}
# What decides whether a paper shows that a claim with this word is so.
DECIDING = {
    "at most": shows_at_most,
    "more": shows_more,
    "gone by": shows_gone_by,
    "not yet": shows_not_yet,
    "ever jammed": shows_ever_jammed,
    "never jammed": shows_never_jammed,
    "never later": shows_never_later,
    "later": shows_later,
    "never less": shows_never_less,
    "less": shows_less,
    "cells fit": shows_cells_fit,
    "cells unlike": shows_cells_unlike,
    "can be": shows_can_be,
    "can't be": shows_can_not_be,
    "fits": shows_fits,
    "clash": shows_clash,
    "sure": shows_sure,
    "not sure": shows_not_sure,
}
