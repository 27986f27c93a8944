"""What tests of books need: conditions as forms, and all corners of where three numbers keep them."""

from fractions import Fraction
from itertools import combinations

from tests.rim_support import (book_corners, cars_counted, is_on_rims, points_on_lines, random_book, random_sight,
                               rims_of_book)
from tests.scene_support import ZERO, toll_of
from tests.support import number, pair, random_source


def form_from(value, many):
    """A straight form, told by its values: the list of its slopes and its constant."""
    units = [[Fraction(int(at == which)) for at in range(many)] for which in range(many)]
    constant = value([Fraction(0)] * many)
    return [value(unit) - constant for unit in units], constant


def number_told(book, numbers, point):
    """The number at a point of the rims of a book, by counting cars."""
    place, moment = point
    if place == 0:
        return cars_counted(book, numbers, "in", Fraction(0), moment)
    return cars_counted(book, numbers, "out", Fraction(0), moment) - cars_counted(book, numbers, "start", Fraction(0), place)


def condition_form(book, sights, condition):
    """The form of a condition of the document."""
    pieces = book[3] + book[4] + book[5]
    many = len(pieces)
    if condition[0] == "step":
        _, point, following = condition
        point, following = [tuple(number(part) for part in one) for one in (point, following)]
        bare = rims_of_book(book, [ZERO] * many)
        assert is_on_rims(bare, point) and is_on_rims(bare, following)
        toll = toll_of(book[0], following[0] - point[0], following[1] - point[1])
        return form_from(lambda told: number_told(book, told, point) + toll - number_told(book, told, following), many)
    word, index = condition
    if word in ("least", "most"):
        _, low, high = pieces[index]
        value = (lambda told: told[index] - number(low)) if word == "least" else (lambda told: number(high) - told[index])
        return form_from(value, many)
    side, first, last, low, high = sights[index]
    counted = lambda told: cars_counted(book, told, side, number(first), number(last))
    return form_from((lambda told: counted(told) - number(low)) if word == "over" else
                     (lambda told: number(high) - counted(told)), many)


def all_conditions(book, sights):
    """All conditions of the document."""
    pieces = book[3] + book[4] + book[5]
    found = [(word, at) for at in range(len(pieces)) for word in ("least", "most")]
    found += [(word, at) for at in range(len(sights)) for word in ("over", "under")]
    bare = rims_of_book(book, [ZERO] * len(pieces))
    corners = book_corners(book)
    for corner in corners:
        for point in corners | points_on_lines(bare, corner):
            for one, other in ((corner, point), (point, corner)):
                if one != other and toll_of(book[0], other[0] - one[0], other[1] - one[1]) is not None:
                    found.append(("step", tuple(map(pair, one)), tuple(map(pair, other))))
    return found


def source_forms(book, point):
    """The forms of which the number at a place and moment is the least."""
    many = len(book[3]) + len(book[4]) + len(book[5])
    bare = rims_of_book(book, [ZERO] * many)
    origins = book_corners(book) | points_on_lines(bare, point) | ({point} if is_on_rims(bare, point) else set())
    found = []
    for origin in origins:
        toll = toll_of(book[0], point[0] - origin[0], point[1] - origin[1])
        if toll is not None:
            slopes, constant = form_from(lambda told: number_told(book, told, origin), many)
            found.append((slopes, constant + toll))
    return found


def at(form, numbers):
    """What a form is for some numbers."""
    return sum((slope * told for slope, told in zip(form[0], numbers)), form[1])


def vertices(forms):
    """All corners of where three numbers let no form be below 0."""
    whole = {}
    for slopes, constant in forms:
        scale = 1
        for value in slopes + [constant]:
            scale = scale * value.denominator
        row = tuple(int(value * scale) for value in slopes + [constant])
        whole[row] = True
    rows = [row for row in whole if any(row[:3])]
    found = set()
    for one, two, three in combinations(rows, 3):
        cross = (one[1] * two[2] - one[2] * two[1], one[2] * two[0] - one[0] * two[2], one[0] * two[1] - one[1] * two[0])
        bulk = cross[0] * three[0] + cross[1] * three[1] + cross[2] * three[2]
        if bulk == 0:
            continue
        point = []
        for which in range(3):
            left = [list(row[:3]) for row in (one, two, three)]
            for row, full in zip(left, (one, two, three)):
                row[which] = -full[3]
            (a, b, c), (d, e, f), (g, h, i) = left
            point.append(a * (e * i - f * h) - b * (d * i - f * g) + c * (d * h - e * g))
        sign = 1 if bulk > 0 else -1
        if all(sign * (row[0] * point[0] + row[1] * point[1] + row[2] * point[2] + row[3] * bulk) >= 0 for row in rows):
            found.add(tuple(Fraction(upper, bulk) for upper in point))
    return found


def some_books(seed, many, pieces=2, sights=3):
    """Random books with sights."""
    source = random_source(seed)
    for _ in range(many):
        book = random_book(source, pieces)
        yield book, tuple(random_sight(source, book) for _ in range(source.randint(1, sights)))


def loosened(book, sights):
    """A book and sights of which numbers of traffic fit: few come in, and nobody stands or goes out."""
    kind, length, last, pieces_in, pieces_out, pieces_start = book
    return ((kind, length, last) + tuple(tuple((width, ZERO, high) for width, _, high in pieces)
                                         for pieces in (pieces_in, pieces_out, pieces_start)),
            tuple(sight[:3] + (ZERO, sight[4]) for sight in sights))


def sum_of_weights(book, sights, weights):
    """The form to which weights add up the forms of their conditions."""
    slopes, constant = [Fraction(0)] * (len(book[3]) + len(book[4]) + len(book[5])), Fraction(0)
    for condition, amount in weights:
        form = condition_form(book, sights, condition)
        slopes = [one + number(amount) * other for one, other in zip(slopes, form[0])]
        constant += number(amount) * form[1]
    return slopes, constant
