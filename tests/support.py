"""What several tests need: wrong values, a look at the errors of a call, flows, random kinds and counts."""

from fractions import Fraction
from inspect import signature
from itertools import product
from random import Random

from roadwaves.errors import InvalidBars, InvalidBeginning, InvalidComings, InvalidMarks, InvalidRow

# These errors tell an index in the place of what was given; None for a list, which is no tuple.
INDEXED = (InvalidBars, InvalidBeginning, InvalidComings, InvalidMarks, InvalidRow)


def nested(depth):
    """A tuple nested so deep."""
    value = ()
    for _ in range(depth - 1):
        value = (value,)
    return value


# None of these is a fraction, a kind or counts, or a corner of them. Within a corner they are nested 14 deep at most.
WRONG = [
    True, False, None, 0, 1, -1, 10 ** 390, "", "0", "1/2", "(1, 2)", "no", b"", b"\x01\x02", 1j, Fraction(1, 2),
    (), (1,), (0,), (1, 2, 3), (0, 1, 1), ((),), ((), ()), [], [0, 1], [1, 2], ([0], [1]), ((0, 1),), ((1, 2),),
    {}, {0: 1, 1: 2}, {0, 1}, frozenset({1, 2}), range(1, 3), iter((1, 2)), slice(1, 2), object(), object, int,
    len, NotImplemented, Ellipsis, (object(), 1), (1, object()), (object, object),
    ("1", "2"), ("1", 2), (1, "2"), (None, 1), (1, None), (None, None), (1j, 1), (1, Fraction(1, 2)),
    (True, 1), (False, 1), (1, True), (0, True), (True, True), (True, 2), (2, True), (True, False),
    (2, 2), (2, 4), (-2, 4), (6, 3), (0, 2), (0, 3), (10 ** 390, 10 ** 389),
    (0, 0), (1, 0), (-1, 0), (0, -1), (1, -1), (-1, -1), (1, -2), (-1, -2), (3, -1),
    ((0, 1), 1), (1, (0, 1)), ((0, 1), (1, 2), (3, 4)), nested(12), [[1, 2], [3, 4]], [(0, 1), (1, 1)],
]

# Fractions that are no contents.
BELOW_ZERO = [(-1, 1), (-1, 2), (-1, 10 ** 390), (-10 ** 390, 1)]


def raised_by(call, *values, **named):
    """The exception that a call raises; None if it raises none."""
    try:
        call(*values, **named)
    except Exception as error:
        return error
    return None


def check_refused(test, error, given, call, *values, **named):
    """A call has to raise just this class of errors, with `given` being the very value that was passed."""
    found = raised_by(call, *values, **named)
    test.assertIs(error, found.__class__)
    test.assertIs(given, found.given)


def check_refused_at(test, error, index, call, *values, **named):
    """A call has to raise just this class of errors, with this `index`."""
    found = raised_by(call, *values, **named)
    test.assertIs(error, found.__class__)
    test.assertEqual(index, found.index)


def check_wrong_values(test, call, values, at, error, wrong):
    """A call has to refuse each wrong value in one place, by position and by name."""
    names = list(signature(call).parameters)
    for which, value in enumerate(wrong):
        passed = list(values)
        passed[at] = value
        with test.subTest(call=call.__name__, name=names[at], which=which):
            check_refused(test, error, value, call, *passed)
            check_refused(test, error, value, call, **dict(zip(names, passed)))


def check_order(test, call, values, errors):
    """Of several wrong arguments the first one of the signature has to be told, in whatever order they are named."""
    names = list(signature(call).parameters)
    for marks in product((False, True), repeat=len(values)):
        if not any(marks):
            test.assertIsNone(raised_by(call, *values))
            continue
        passed = [[] if mark else value for mark, value in zip(marks, values)]
        first = marks.index(True)
        named = dict(reversed(list(zip(names, passed))))
        with test.subTest(call=call.__name__, marks=marks):
            if issubclass(errors[first], INDEXED):
                check_refused_at(test, errors[first], None, call, *passed)
                check_refused_at(test, errors[first], None, call, **named)
            else:
                check_refused(test, errors[first], passed[first], call, *passed)
                check_refused(test, errors[first], passed[first], call, **named)


def number(fraction):
    """A fraction as Python's own kind of fraction."""
    return Fraction(*fraction)


def pair(value):
    """Python's own kind of fraction as the pair that the document asks for."""
    value = Fraction(value)
    return (value.numerator, value.denominator)


def flow_of(kind, density):
    """The flow as the least of all straight lines through the pieces: right as the kind bends down everywhere."""
    found = []
    for (one, flow), (other, following) in zip(kind, kind[1:]):
        slope = (number(following) - number(flow)) / (number(other) - number(one))
        found.append(number(flow) + slope * (density - number(one)))
    return min(found)


def random_fraction(source, low, high):
    """A fraction between two whole numbers, with a small lower number."""
    lower = source.randint(1, 6)
    return Fraction(source.randint(low * lower, high * lower), lower)


def random_kind(source, pieces):
    """A kind with so many pieces."""
    while True:
        slopes = sorted({random_fraction(source, -4, 5) for _ in range(pieces)}, reverse=True)
        if len(slopes) < pieces or slopes[0] <= 0 or slopes[-1] >= 0:
            continue
        density, flow, corners = Fraction(0), Fraction(0), [(Fraction(0), Fraction(0))]
        for slope in slopes[:-1]:
            width = random_fraction(source, 1, 3)
            density, flow = density + width, flow + width * slope
            corners.append((density, flow))
        if flow > 0:
            corners.append((density - flow / slopes[-1], Fraction(0)))
            return tuple((pair(density), pair(flow)) for density, flow in corners)


def random_counts(source, pieces):
    """Counts with at most so many pieces."""
    moment, told, rate = Fraction(0), random_fraction(source, -3, 3), None
    corners = [(moment, told)]
    for _ in range(pieces):
        following = random_fraction(source, 0, 3)
        if following != rate:
            rate = following
            width = random_fraction(source, 1, 3)
            moment, told = moment + width, told + width * rate
            corners.append((moment, told))
    if rate == 0:
        corners.pop()
    return tuple((pair(moment), pair(told)) for moment, told in corners)


def random_source(seed):
    """A source of random numbers that is the same in each run."""
    return Random(seed)
