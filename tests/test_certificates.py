"""Certificates: of two claims the one that is so, with a paper that the checker accepts."""

import unittest
from fractions import Fraction
from inspect import signature

from roadwaves import certificates
from roadwaves.bars import never_later
from roadwaves.books import fitting_numbers, number_range
from roadwaves.cells import cells_fit
from roadwaves.certificates import (certify_bars, certify_book, certify_cells, certify_jam, certify_kinds, certify_number,
                                    certify_number_range, certify_passing, certify_rims)
from roadwaves.checker import accepts
from roadwaves.compares import never_less
from roadwaves.errors import (InvalidAmount, InvalidBars, InvalidBook, InvalidFraction, InvalidKind, InvalidMoment,
                              InvalidNumber, InvalidPlace, InvalidRims, InvalidRow, InvalidScene, NoneFits, TooMany)
from roadwaves.jams import last_jam
from roadwaves.rims import can_be
from roadwaves.scenes import all_cars, start_number
from roadwaves.ways import number_at
from tests.book_support import loosened, some_books
from tests.claim_support import EXCLUDED, is_right
from tests.rim_support import BOOK, BROAD, EARLY, FEW, SEEN, SHUT, THROUGH, random_rims
from tests.scene_support import (FOUR, HALF, LEVEL, LIGHT, ONE, RED, ROAD, SIX, STOP, STREET, THREE, TWO, ZERO, random_bars,
                                 random_point, some_scenes)
from tests.support import (BELOW_ZERO, WRONG, check_order, check_refused, check_refused_at, check_wrong_values, nested,
                           number, pair, raised_by, random_fraction, random_kind, random_source)

FREE = LIGHT[:4] + ((),)
WIDE = ROAD[:2] + ((FOUR, ZERO),)
SIGHTS = (SEEN, BROAD)
# Each function with its parameters, valid arguments, the error of each parameter, and the words of its claims.
FUNCTIONS = [
    ("certify_number", "scene place moment fraction", (STREET, ONE, TWO, ZERO),
     (InvalidScene, InvalidPlace, InvalidMoment, InvalidFraction), ("at most", "more")),
    ("certify_passing", "scene car place moment", (STREET, ONE, TWO, THREE),
     (InvalidScene, InvalidNumber, InvalidPlace, InvalidMoment), ("gone by", "not yet")),
    ("certify_jam", "scene", (STREET,), (InvalidScene,), ("ever jammed", "never jammed")),
    ("certify_bars", "kind length bars other", (ROAD, FOUR, (STOP,), ()),
     (InvalidKind, InvalidAmount, InvalidBars, InvalidBars), ("never later", "later")),
    ("certify_kinds", "kind other", (ROAD, WIDE), (InvalidKind, InvalidKind), ("never less", "less")),
    ("certify_cells", "kind dx dt", (ROAD, ONE, TWO), (InvalidKind, InvalidAmount, InvalidAmount),
     ("cells fit", "cells unlike")),
    ("certify_rims", "rims", (THROUGH,), (InvalidRims,), ("can be", "can't be")),
    ("certify_book", "book sights", (BOOK, SIGHTS), (InvalidBook, InvalidRow), ("fits", "clash")),
    ("certify_number_range", "book sights place moment fraction other", (BOOK, SIGHTS, ONE, TWO, HALF, ONE),
     (InvalidBook, InvalidRow, InvalidPlace, InvalidMoment, InvalidFraction, InvalidFraction), ("sure", "not sure")),
]
CALLS = [(getattr(certificates, row[0]), row[1].split(), row[2], row[3]) for row in FUNCTIONS]
REFUSED = {
    InvalidScene: WRONG + [nested(14), STREET[:4], list(STREET)], InvalidPlace: WRONG + BELOW_ZERO + [(5, 1)],
    InvalidMoment: WRONG + BELOW_ZERO + [], InvalidFraction: WRONG, InvalidNumber: WRONG + [(31, 10), (-21, 10)],
    InvalidKind: WRONG + [ROAD[:2], list(ROAD)], InvalidAmount: WRONG + BELOW_ZERO + [ZERO],
    InvalidRims: WRONG + [THROUGH[:5], list(THROUGH)], InvalidBook: WRONG + [BOOK[:5], list(BOOK)],
}
BY_INDEX = {InvalidBars: (([], None), (None, None), ((5,), 0), ((STOP, STOP), 1), ((STOP, RED, STOP), 2)),
            InvalidRow: ((None, None), ((), None), ([SEEN], None), ((SEEN, FEW[:4]), 1), ((SEEN,) * 7, 6))}


class Certificates(unittest.TestCase):
    def check(self, call, *values):
        """The word of the claim, which has to be right and accepted, and the excluded one not, with either paper."""
        found = call(*values)
        self.assertIsInstance(found, tuple)
        claim, paper = found
        self.assertEqual(values, claim[1:])
        for one, other in zip(values, claim[1:]):
            self.assertIs(one, other)
        self.assertIn(claim[0], FUNCTIONS[[row[0] for row in FUNCTIONS].index(call.__name__)][4])
        self.assertIs(True, accepts(claim, paper))
        self.assertTrue(is_right(claim, paper))
        other = (EXCLUDED[claim[0]],) + claim[1:]
        self.assertIs(False, accepts(other, paper))
        self.assertIs(False, accepts(other, ()))
        return claim[0]

    def test_numbers(self):
        source = random_source(131)
        self.assertEqual(["at most", "more"], [self.check(certify_number, LIGHT, ONE, FOUR, told) for told in (ONE, HALF)])
        for scene in some_scenes(132, 12):
            place, moment = random_point(source, scene)
            told = number_at(scene, place, moment)
            less = pair(number(told) - Fraction(1, 10 ** 20))
            self.assertEqual(["at most", "more", "at most"], [self.check(certify_number, scene, place, moment, one)
                                                              for one in (told, less, pair(number(told) + 3))])

    def test_passings(self):
        source = random_source(133)
        self.assertEqual(["gone by", "not yet"], [self.check(certify_passing, STREET, ZERO, TWO, moment)
                                                  for moment in ((7, 2), (349, 100))])
        for scene in some_scenes(134, 12):
            place, moment = random_point(source, scene)
            told = number(number_at(scene, place, moment))
            for car in (told, told + Fraction(1, 10 ** 20), told - 1):
                if number(start_number(scene, scene[1])) <= car <= number(all_cars(scene)):
                    self.assertEqual("gone by" if car <= told else "not yet",
                                     self.check(certify_passing, scene, pair(car), place, moment))

    def test_jams(self):
        self.assertEqual(["ever jammed", "never jammed"], [self.check(certify_jam, scene) for scene in (STREET, FREE)])
        found = set()
        for scene in some_scenes(135, 30):
            word = self.check(certify_jam, scene)
            self.assertEqual("never jammed" if last_jam(scene) is None else "ever jammed", word)
            found.add(word)
        self.assertEqual(2, len(found))

    def test_bars(self):
        source = random_source(136)
        shorter = STOP[:3] + (ONE, ZERO)
        self.assertEqual(["never later", "later"], [self.check(certify_bars, ROAD, FOUR, *lots) for lots in (
            ((shorter,), (STOP,)), ((STOP,), (shorter,)))])
        found = set()
        for at in range(40):
            kind = random_kind(source, 3)
            length = random_fraction(source, 1, 6)
            bars = random_bars(source, kind, length, source.randint(0, 3))
            other = [bars[1:], bars, random_bars(source, kind, length, 2)][at % 3]
            for lots in ((bars, other), (other, bars)):
                word = self.check(certify_bars, kind, pair(length), *lots)
                self.assertEqual("never later" if never_later(kind, pair(length), *lots) else "later", word)
                found.add(word)
        self.assertEqual(2, len(found))

    def test_kinds(self):
        source = random_source(137)
        self.assertEqual(["less", "never less", "never less"], [self.check(certify_kinds, *kinds) for kinds in (
            (ROAD, WIDE), (WIDE, ROAD), (LEVEL, LEVEL))])
        for _ in range(40):
            kinds = random_kind(source, source.randint(2, 5)), random_kind(source, source.randint(2, 5))
            self.assertEqual("never less" if never_less(*kinds) else "less", self.check(certify_kinds, *kinds))

    def test_cells(self):
        source = random_source(138)
        self.assertEqual(["cells fit", "cells unlike"], [self.check(certify_cells, ROAD, ONE, dt) for dt in (TWO, ONE)])
        for _ in range(30):
            values = random_kind(source, 3), pair(random_fraction(source, 1, 3)), pair(random_fraction(source, 1, 3))
            self.assertEqual("cells fit" if cells_fit(*values) else "cells unlike", self.check(certify_cells, *values))
        found = raised_by(certify_cells, ROAD, ONE, (41, 1))
        self.assertEqual((TooMany, 63), (found.__class__, found.given))
        self.assertEqual("cells fit", self.check(certify_cells, ROAD, ONE, (40, 1)))

    def test_rims(self):
        source = random_source(139)
        self.assertEqual(["can be", "can be", "can't be"], [self.check(certify_rims, rims) for rims in (THROUGH, SHUT, EARLY)])
        for _ in range(60):
            rims = random_rims(source)
            self.assertEqual("can be" if can_be(rims) else "can't be", self.check(certify_rims, rims))

    def test_books(self):
        self.assertEqual(["fits", "clash"], [self.check(certify_book, BOOK, sights) for sights in (SIGHTS, (SEEN, FEW))])
        found = set()
        for book, sights in some_books(140, 40):
            for told, kept in ((book, sights), loosened(book, sights)):
                word = self.check(certify_book, told, kept)
                self.assertEqual("clash" if fitting_numbers(told, kept) is None else "fits", word)
                found.add(word)
        self.assertEqual(2, len(found))

    def test_number_ranges(self):
        source = random_source(141)
        for low, high, word in ((HALF, ONE, "sure"), (ZERO, SIX, "sure"), (HALF, (99, 100), "not sure"),
                                ((51, 100), ONE, "not sure"), (ONE, HALF, "not sure"), ((-1, 1), (-1, 2), "not sure")):
            self.assertEqual(word, self.check(certify_number_range, BOOK, SIGHTS, ONE, TWO, low, high))
        small = Fraction(1, 10 ** 20)
        for book, sights in some_books(142, 20):
            book, sights = loosened(book, sights)
            place = pair(number(book[1]) * Fraction(source.randint(0, 6), 6))
            moment = pair(number(book[2]) * Fraction(source.randint(0, 6), 6))
            low, high = number_range(book, sights, place, moment)
            for one, other, word in ((low, high, "sure"), (pair(number(low) + small), high, "not sure"),
                                     (low, pair(number(high) - small), "not sure")):
                self.assertEqual(word, self.check(certify_number_range, book, sights, place, moment, one, other))

    def test_numbers_of_any_size(self):
        unit = Fraction(3) ** 600
        kind = tuple((pair(number(density) / unit), pair(number(flow) / unit)) for density, flow in ROAD)
        up = pair(unit)
        scene = (kind, up, ((up, ZERO),), (ONE, ()), ((up, ZERO, ZERO, pair(2 * unit), ZERO),))
        self.assertEqual("at most", self.check(certify_number, scene, up, pair(2 * unit), ZERO))
        self.assertEqual("not yet", self.check(certify_passing, scene, HALF, up, pair(unit * 5 / 2 - 1)))
        self.assertEqual("ever jammed", self.check(certify_jam, scene))
        self.assertEqual("later", self.check(certify_bars, kind, up, scene[4], ()))


class Arguments(unittest.TestCase):
    def test_names_and_arguments_by_name(self):
        for call, parameters, values, _ in CALLS:
            self.assertEqual("roadwaves.certificates", call.__module__)
            self.assertEqual(parameters, list(signature(call).parameters))
            found = call(*values)
            self.assertEqual(found, call(**dict(reversed(list(zip(parameters, values))))))
            for at in range(len(values)):
                self.assertEqual(found, call(*values[:at], **dict(zip(parameters[at:], values[at:]))))
        self.assertEqual(["claim", "paper"], list(signature(accepts).parameters))
        self.assertEqual("roadwaves.checker", accepts.__module__)

    def test_errors(self):
        for call, parameters, values, errors in CALLS:
            for at, error in enumerate(errors):
                if error in REFUSED:
                    check_wrong_values(self, call, values, at, error, REFUSED[error])
                for value, index in BY_INDEX.get(error, ()):
                    passed = values[:at] + (value,) + values[at + 1:]
                    check_refused_at(self, error, index, call, *passed)
                    check_refused_at(self, error, index, call, **dict(zip(parameters, passed)))

    def test_the_first_of_several(self):
        for call, _, values, errors in CALLS:
            check_order(self, call, values, errors)

    def test_moments_beyond_last(self):
        for value in ((401, 100), SIX):
            check_refused(self, InvalidMoment, value, certify_number_range, BOOK, SIGHTS, ONE, value, None, None)
        check_refused(self, InvalidPlace, THREE, certify_number_range, BOOK, (SEEN, FEW), THREE, None, None, None)

    def test_none_fits_last(self):
        clash = (SEEN, FEW)
        self.assertIs(NoneFits, raised_by(certify_number_range, BOOK, clash, ONE, TWO, ZERO, ZERO).__class__)
        for value in WRONG:
            check_refused(self, InvalidFraction, value, certify_number_range, BOOK, clash, ONE, TWO, value, value)
            check_refused(self, InvalidFraction, value, certify_number_range, BOOK, clash, ONE, TWO, ONE, value)

    def test_too_many_last(self):
        for value in WRONG + [ZERO]:
            check_refused(self, InvalidAmount, value, certify_cells, ROAD, value, (41, 1))
            check_refused(self, InvalidKind, value, certify_cells, value, ONE, (41, 1))


if __name__ == "__main__":
    unittest.main()
