"""What tests of rims and books need: random ones, and a search of their own over corners, speeds and points."""

from fractions import Fraction

from tests.scene_support import FOUR, ONE, ROAD, TWO, ZERO, on_line, random_beginning, speeds_in, toll_of
from tests.support import number, pair, random_counts, random_fraction, random_kind

# The rims and the books of the document's examples.
INFLOW, LATE, SHUT_GATE = ((ZERO, ZERO), (FOUR, TWO)), ((ZERO, ZERO), (TWO, ZERO), (FOUR, ONE)), ((ZERO, ZERO),)
THROUGH = (ROAD, TWO, ((TWO, ZERO),), INFLOW, LATE, FOUR)
SHUT = THROUGH[:4] + (SHUT_GATE, FOUR)
EARLY = THROUGH[:4] + (((ZERO, ZERO), (ONE, ZERO), (FOUR, (3, 2))), FOUR)
BOOK = (ROAD, TWO, FOUR, ((FOUR, ZERO, ONE),), ((TWO, ZERO, ZERO), (TWO, ZERO, ONE)), ((TWO, ZERO, ZERO),))
SEEN, BROAD, FEW = ("out", TWO, FOUR, ONE, ONE), ("in", ZERO, FOUR, ZERO, FOUR), ("in", ZERO, FOUR, ZERO, ONE)


def starts_of(beginning):
    """The corners (PLACE, NUMBER) of a beginning."""
    found = [(Fraction(0), Fraction(0))]
    for width, density in beginning:
        place, told = found[-1]
        found.append((place + number(width), told - number(width) * number(density)))
    return found


def line_of(counts):
    """Counts as corners of Python's own fractions."""
    return [(number(moment), number(told)) for moment, told in counts]


def number_on_rims(rims, point):
    """The number that rims tell at a point."""
    place, moment = point
    if moment == 0:
        return on_line(starts_of(rims[2]), place)
    return on_line(line_of(rims[3] if place == 0 else rims[4]), moment)


def is_on_rims(rims, point):
    """Whether a place and moment is a point of the rims."""
    place, moment = point
    return 0 <= place <= number(rims[1]) and 0 <= moment <= number(rims[5]) and (moment == 0 or place in
                                                                                 (0, number(rims[1])))


def corners_of(rims):
    """The corners of rims, both ends of the road at LAST with them."""
    length, last = number(rims[1]), number(rims[5])
    found = {(place, Fraction(0)) for place, _ in starts_of(rims[2])} | {(Fraction(0), last), (length, last)}
    found |= {(Fraction(0), moment) for moment, _ in line_of(rims[3])}
    return found | {(length, moment) for moment, _ in line_of(rims[4])}


def points_on_lines(rims, point):
    """The points of the rims on the lines with a speed of the kind through a place and moment."""
    place, moment = point
    found = set()
    for speed in speeds_in(rims[0]):
        found.add((place - speed * moment, Fraction(0)))
        if speed != 0:
            for end in (Fraction(0), number(rims[1])):
                found.add((end, moment + (end - place) / speed))
    return {other for other in found if is_on_rims(rims, other)}


def is_barred(rims, point, following):
    """Whether more cars go by from one point of the rims to another one than a step lets."""
    toll = toll_of(rims[0], following[0] - point[0], following[1] - point[1])
    return toll is not None and number_on_rims(rims, following) > number_on_rims(rims, point) + toll


def are_barred(rims):
    """Whether any pair of corners, or of a corner and a point a step with a speed of the kind away, bars rims."""
    corners = corners_of(rims)
    for corner in corners:
        for point in corners | points_on_lines(rims, corner):
            if is_barred(rims, corner, point) or is_barred(rims, point, corner):
                return True
    return False


def settled_number(rims, point):
    """The number at a place and moment that rims settle, by a search of its own."""
    origins = corners_of(rims) | points_on_lines(rims, point) | ({point} if is_on_rims(rims, point) else set())
    found = []
    for origin in origins:
        toll = toll_of(rims[0], point[0] - origin[0], point[1] - origin[1])
        if toll is not None:
            found.append(number_on_rims(rims, origin) + toll)
    return min(found)


def random_rims_point(source, rims):
    """A point of rims, as a pair of pairs."""
    length, last = number(rims[1]), number(rims[5])
    share = Fraction(source.randint(0, 60), 60)
    return source.choice([(pair(share * length), ZERO), (ZERO, pair(share * last)), (rims[1], pair(share * last))])


def cut_counts(line, last):
    """A line of numbers at moments up to a last one, as counts."""
    corners = [corner for corner in line if corner[0] < last] + [(last, on_line(line, last))]
    kept = corners[:1]
    for corner, following in zip(corners[1:], corners[2:]):
        slopes = [(b[1] - a[1]) / (b[0] - a[0]) for a, b in ((kept[-1], corner), (corner, following))]
        if slopes[0] != slopes[1]:
            kept.append(corner)
    if corners[-1][1] != kept[-1][1]:
        kept.append(corners[-1])
    return tuple((pair(moment), pair(told)) for moment, told in kept)


def random_rims(source):
    """Rims of any numbers, which mostly can't be."""
    kind = random_kind(source, source.randint(2, 4))
    length, last = random_fraction(source, 1, 4), random_fraction(source, 1, 6)
    beginning = random_beginning(source, kind, length, source.randint(1, 3))
    sides = []
    for first in (Fraction(0), starts_of(beginning)[-1][1]):
        told = line_of(random_counts(source, source.randint(0, 3)))
        share = Fraction(source.randint(0, 6), 6) / 2
        sides.append(cut_counts([(moment, first + share * (level - told[0][1])) for moment, level in told], last))
    return (kind, pair(length), beginning, sides[0], sides[1], pair(last))


def shares(source, total, many):
    """A whole cut into at most so many amounts."""
    cuts = sorted({total * Fraction(source.randint(1, 11), 12) for _ in range(many - 1)})
    return [other - one for one, other in zip([Fraction(0)] + cuts, cuts + [total])]


def random_bounds(source, most, parts=12):
    """Two contents up to the most, the first one not above the second one."""
    if source.random() < 0.3:
        return (ZERO, pair(most))
    low, high = sorted(most * Fraction(source.randint(0, parts), parts) for _ in range(2))
    return (pair(low), pair(high))


def random_book(source, pieces, corners=(2, 4)):
    """A book with at most so many pieces on each side, of a kind with so many pieces from the least to the most."""
    kind = random_kind(source, source.randint(*corners))
    length, last = random_fraction(source, 1, 4), random_fraction(source, 2, 6)
    top, full = max(number(flow) for _, flow in kind), number(kind[-1][0])
    lots = []
    for total, most in ((last, top), (last, top), (length, full)):
        lots.append(tuple((pair(width),) + random_bounds(source, most)
                          for width in shares(source, total, source.randint(1, pieces))))
    return (kind, pair(length), pair(last)) + tuple(lots)


def random_sight(source, book):
    """A sight of a book."""
    side = source.choice(["in", "out", "start"])
    extent = number(book[1] if side == "start" else book[2])
    most = number(book[0][-1][0]) if side == "start" else max(number(flow) for _, flow in book[0])
    one, other = sorted(source.sample(range(13), 2))
    return (side, pair(extent * Fraction(one, 12)), pair(extent * Fraction(other, 12))) + random_bounds(
        source, most * extent * Fraction(other - one, 12))


def rims_of_book(book, numbers):
    """The rims of a book with some numbers."""
    kind, length, last, pieces_in, pieces_out, pieces_start = book
    many = len(pieces_in) + len(pieces_out)
    beginning = tuple((width, told) for (width, _, _), told in zip(pieces_start, numbers[many:]))
    sides = []
    for pieces, rates, level in ((pieces_in, numbers, Fraction(0)),
                                 (pieces_out, numbers[len(pieces_in):], starts_of(beginning)[-1][1])):
        line = [(Fraction(0), level)]
        for (width, _, _), rate in zip(pieces, rates):
            line.append((line[-1][0] + number(width), line[-1][1] + number(width) * number(rate)))
        sides.append(cut_counts(line, number(last)))
    return (kind, length, beginning, sides[0], sides[1], last)


def book_corners(book):
    """The corners of the rims of a book, whatever the numbers are."""
    length, last = number(book[1]), number(book[2])
    found = {(Fraction(0), Fraction(0)), (length, Fraction(0)), (Fraction(0), last), (length, last)}
    for pieces, point in zip(book[3:], (lambda at: (Fraction(0), at), lambda at: (length, at),
                                        lambda at: (at, Fraction(0)))):
        at = Fraction(0)
        for width, _, _ in pieces:
            at += number(width)
            found.add(point(at))
    return found


def cars_counted(book, numbers, side, first, last):
    """How many cars a sight of a book counts, with numbers as Python's own fractions or as forms."""
    at = {"in": 0, "out": len(book[3]), "start": len(book[3]) + len(book[4])}[side]
    pieces = book[{"in": 3, "out": 4, "start": 5}[side]]
    begin, found = Fraction(0), Fraction(0)
    for (width, _, _), told in zip(pieces, numbers[at:]):
        end = begin + number(width)
        found += max(min(end, last) - max(begin, first), Fraction(0)) * told
        begin = end
    return found


def does_fit(book, sights, numbers):
    """Whether numbers fit, by the words."""
    pieces = book[3] + book[4] + book[5]
    if not all(number(low) <= number(told) <= number(high) for told, (_, low, high) in zip(numbers, pieces)):
        return False
    told = [number(one) for one in numbers]
    for side, first, last, low, high in sights:
        if not number(low) <= cars_counted(book, told, side, number(first), number(last)) <= number(high):
            return False
    rims = rims_of_book(book, numbers)
    # The corners of the book are corners, whether or not the numbers bend there.
    corners = book_corners(book) | corners_of(rims)
    points = {point for corner in corners for point in points_on_lines(rims, corner)} | corners
    return not any(is_barred(rims, one, other) or is_barred(rims, other, one) for one in corners for other in points)
