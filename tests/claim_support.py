"""What tests of the checker and of certificates need: claims with papers, and a look of their own at both."""

from fractions import Fraction
from math import gcd

from roadwaves.bars import bars_from, never_later
from roadwaves.books import is_book, number_range
from roadwaves.jams import jammed_places, last_jam
from roadwaves.kinds import is_kind
from roadwaves.rims import is_rims
from roadwaves.scenes import all_cars, is_scene, start_number
from tests.book_support import sum_of_weights
from tests.rim_support import are_barred, does_fit, is_barred, is_on_rims, rims_of_book, settled_number
from tests.scene_support import ZERO, searched_number, speeds_in, toll_of
from tests.support import flow_of, number, raised_by
from tests.test_cells import by_cells, truly
from tests.test_compares import is_less_somewhere
from tests.test_ways import number_of_way


def is_whole(value):
    """Whether a value is a whole number."""
    return value.__class__ is int


def is_fraction(value):
    """Whether a value is a fraction."""
    if value.__class__ is not tuple or len(value) != 2 or not all(map(is_whole, value)):
        return False
    return value[1] > 0 and gcd(*value) == 1


def is_from(low, value, high=None):
    """Whether a value is a fraction from one fraction on, up to another one."""
    return is_fraction(value) and number(low) <= number(value) and (high is None or number(value) <= number(high))


def is_pair(value):
    """Whether a value is a pair of fractions."""
    return value.__class__ is tuple and len(value) == 2 and all(map(is_fraction, value))


def is_road(kind, length, *lots):
    """Whether these are a kind, a length and lots of bars on it."""
    return is_kind(kind) and all(is_scene((kind, length, ((length, ZERO),), (ZERO, ()), lot)) for lot in lots)


def is_car(scene, value):
    """Whether a value is a car of a scene."""
    return is_from(start_number(scene, scene[1]), value, all_cars(scene))


def are_sights(book, value):
    """Whether a value is sights of a book."""
    if value.__class__ is not tuple or not 1 <= len(value) <= 6:
        return False
    for sight in value:
        if sight.__class__ is not tuple or len(sight) != 5 or sight[0] not in ("in", "out", "start"):
            return False
        extent = book[1] if sight[0] == "start" else book[2]
        if not is_from(ZERO, sight[1], extent) or not is_from(sight[1], sight[2], extent) or sight[1] == sight[2]:
            return False
        if not is_from(ZERO, sight[3]) or not is_from(sight[3], sight[4]):
            return False
    return True


def is_point_of(scene, place, moment):
    """Whether these are a place of a scene's road and a moment."""
    return is_from(ZERO, place, scene[1]) and is_from(ZERO, moment)


FORMS = {
    "at most": lambda scene, place, moment, fraction:
        is_scene(scene) and is_point_of(scene, place, moment) and is_fraction(fraction),
    "gone by": lambda scene, car, place, moment:
        is_scene(scene) and is_car(scene, car) and is_point_of(scene, place, moment),
    "ever jammed": lambda scene: is_scene(scene),
    "never later": lambda kind, length, bars, other: is_road(kind, length, bars, other),
    "never less": lambda kind, other: is_kind(kind) and is_kind(other),
    "cells fit": lambda kind, dx, dt: is_kind(kind) and all(is_from(ZERO, one) and one != ZERO for one in (dx, dt)),
    "can be": lambda rims: is_rims(rims),
    "fits": lambda book, sights: is_book(book) and are_sights(book, sights),
    "sure": lambda book, sights, place, moment, low, high:
        is_book(book) and are_sights(book, sights) and is_from(ZERO, place, book[1]) and is_from(ZERO, moment, book[2])
        and is_fraction(low) and is_fraction(high),
}
EXCLUDED = {"at most": "more", "gone by": "not yet", "ever jammed": "never jammed", "never later": "later",
            "never less": "less", "cells fit": "cells unlike", "can be": "can't be", "fits": "clash", "sure": "not sure"}
FORMS.update({other: FORMS[one] for one, other in EXCLUDED.items()})
EXCLUDED.update({other: one for one, other in list(EXCLUDED.items())})


def is_claim(claim):
    """Whether a value is a claim for the checker."""
    if claim.__class__ is not tuple or not claim or claim[0].__class__ is not str or claim[0] not in FORMS:
        return False
    form = FORMS[claim[0]]
    return len(claim) == form.__code__.co_argcount + 1 and form(*claim[1:])


def way_to_there(scene, place, moment, paper):
    """The number of a way to there; None if it is none."""
    if paper.__class__ is not tuple or not paper:
        return None
    for point in paper:
        if point.__class__ is not tuple or len(point) != 3 or point[0].__class__ is not str:
            return None
        if not is_point_of(scene, point[1], point[2]):
            return None
    return number_of_way(scene, paper) if paper[-1][1:] == (place, moment) else None


def at_most(scene, place, moment, fraction, paper):
    told = way_to_there(scene, place, moment, paper)
    return told is not None and told <= number(fraction)


def not_yet(scene, car, place, moment, paper):
    told = way_to_there(scene, place, moment, paper)
    return told is not None and told < number(car)


def ever_jammed(scene, paper):
    if not is_pair(paper) or not is_point_of(scene, *paper):
        return False
    return any(is_from(first, paper[0], last) for first, last in jammed_places(scene, paper[1]))


def later(kind, length, bars, other, paper):
    if paper.__class__ is not tuple or len(paper) != 5 or not is_from(ZERO, paper[0]):
        return False
    moment, beginning, comings, place, end = paper
    scenes = [(kind, length, beginning, comings, bars_from(kind, length, lot, moment)) for lot in (bars, other)]
    if not is_scene(scenes[0]) or not is_point_of(scenes[0], place, end):
        return False
    return searched_number(scenes[0], place, end) < searched_number(scenes[1], place, end)


def less(kind, other, paper):
    if not is_from(ZERO, paper, kind[-1][0]) or not is_from(ZERO, paper, other[-1][0]):
        return False
    return flow_of(kind, number(paper)) < flow_of(other, number(paper))


def cells_unlike(kind, dx, dt, paper):
    if paper.__class__ is not tuple or not 2 <= len(paper) <= 40 or not all(map(is_fraction, paper)):
        return False
    row = list(map(number, paper))
    if not all(0 <= one - other <= number(kind[-1][0]) * number(dx) for one, other in zip(row, row[1:])):
        return False
    return by_cells(kind, number(dx), number(dt), row) != truly(kind, number(dx), number(dt), row)


def can_not_be(rims, paper):
    if paper.__class__ is not tuple or len(paper) != 2 or not all(map(is_pair, paper)):
        return False
    points = [tuple(map(number, point)) for point in paper]
    return all(is_on_rims(rims, point) for point in points) and is_barred(rims, *points)


def fits(book, sights, paper):
    if paper.__class__ is not tuple or len(paper) != len(book[3] + book[4] + book[5]) or not all(map(is_fraction, paper)):
        return False
    return does_fit(book, sights, paper)


def is_condition(book, sights, value):
    """Whether a value is a condition of a book and sights."""
    if value.__class__ is not tuple or not value or value[0].__class__ is not str:
        return False
    if value[0] == "step":
        if len(value) != 3 or not is_pair(value[1]) or not is_pair(value[2]):
            return False
        bare = rims_of_book(book, [ZERO] * len(book[3] + book[4] + book[5]))
        one, other = [tuple(map(number, point)) for point in value[1:]]
        if not is_on_rims(bare, one) or not is_on_rims(bare, other):
            return False
        return toll_of(book[0], other[0] - one[0], other[1] - one[1]) is not None
    many = {"least": len(book[3] + book[4] + book[5]), "over": len(sights)}
    many.update({"most": many["least"], "under": many["over"]})
    return len(value) == 2 and value[0] in many and is_whole(value[1]) and 0 <= value[1] < many[value[0]]


def clash(book, sights, paper):
    if paper.__class__ is not tuple or not paper:
        return False
    for one in paper:
        if one.__class__ is not tuple or len(one) != 2 or not is_condition(book, sights, one[0]):
            return False
        if not is_from(ZERO, one[1]) or one[1] == ZERO:
            return False
    if len({condition for condition, _ in paper}) != len(paper):
        return False
    slopes, constant = sum_of_weights(book, sights, paper)
    return not any(slopes) and constant < 0


def sure(book, sights, place, moment, low, high, paper):
    if raised_by(number_range, book, sights, place, moment) is not None:
        return False
    least, most = number_range(book, sights, place, moment)
    return paper == () and number(low) <= number(least) and number(most) <= number(high)


def not_sure(book, sights, place, moment, low, high, paper):
    if not fits(book, sights, paper):
        return False
    settled = settled_number(rims_of_book(book, paper), (number(place), number(moment)))
    return not number(low) <= settled <= number(high)


TRUTHS = {
    "at most": at_most, "not yet": not_yet, "ever jammed": ever_jammed, "later": later, "less": less,
    "cells unlike": cells_unlike, "can't be": can_not_be, "fits": fits, "clash": clash, "sure": sure, "not sure": not_sure,
    "more": lambda scene, place, moment, fraction, paper:
        paper == () and searched_number(scene, place, moment) > number(fraction),
    "gone by": lambda scene, car, place, moment, paper:
        paper == () and searched_number(scene, place, moment) >= number(car),
    "never jammed": lambda scene, paper: paper == () and last_jam(scene) is None,
    "never later": lambda kind, length, bars, other, paper: paper == () and never_later(kind, length, bars, other),
    "never less": lambda kind, other, paper: paper == () and not is_less_somewhere(kind, other),
    "cells fit": lambda kind, dx, dt, paper:
        paper == () and all((speed * number(dt) / number(dx)).denominator == 1 for speed in speeds_in(kind)),
    "can be": lambda rims, paper: paper == () and not are_barred(rims),
}


def is_right(claim, paper):
    """Whether a paper has to be accepted for a claim, as the tests see it."""
    return is_claim(claim) and bool(TRUTHS[claim[0]](*claim[1:], paper))


WORDS = ["start", "step", "ride", "least", "most", "over", "under", "in", "out", "", "at most"]


def bent(source, value):
    """Values that are unlike a value in one place: a number, a word, an element less or more or in another place."""
    found = []
    if value.__class__ is int:
        found = [value + 1, value - 1, -value, source.choice([0, 2 * value, True, None, str(value), (value,)])]
    elif value.__class__ is str:
        found = [source.choice([word for word in WORDS if word != value]), source.choice([None, 0, value + " ", value.upper()])]
    elif value.__class__ is tuple:
        for at, part in enumerate(value):
            found += [value[:at] + (other,) + value[at + 1:] for other in bent(source, part)]
        if value:
            at = source.randrange(len(value))
            found += [value[:at] + value[at + 1:], value[:at] + (value[at],) + value[at:], value + (source.choice(value),),
                      value[:-1] + (list(value),), value[::-1]]
            if is_fraction(value):
                found += [(2 * value[0], 2 * value[1]), (value[0] * 7 + 1, value[1] * 7), (value[0], -value[1])]
                found = [one for one in found if one.__class__ is tuple]
                found += [tuple(value_of) for value_of in (near(value, Fraction(1, 10)), near(value, Fraction(-1, 3)))]
        found.append(list(value))
    return [one for one in found if repr(one) != repr(value)]


def near(value, change):
    """A fraction a little away."""
    told = number(value) + change
    return (told.numerator, told.denominator)
