"""Books: what they are, which numbers fit, weights that bar them, and what is sure of all numbers that fit."""

import unittest
from fractions import Fraction

from roadwaves.books import (barring_weights, cars_range, clashing_sights, fitting_numbers, fitting_rims, is_book,
                             is_fitting, needless_sights, number_range)
from roadwaves.errors import InvalidBook, InvalidFraction, InvalidMoment, InvalidName, InvalidPlace, InvalidRow, NoneFits
from roadwaves.rims import can_be, inner_number, is_rims
from tests.book_support import (all_conditions, at, condition_form, form_from, loosened, some_books, source_forms,
                                sum_of_weights, vertices)
from tests.rim_support import (BOOK, BROAD, FEW, SEEN, cars_counted, cut_counts, does_fit, random_book, random_sight,
                               rims_of_book, settled_number)
from tests.scene_support import FIVE, FOUR, HALF, LEVEL, ONE, ROAD, SIX, THREE, TWO, ZERO
from tests.support import (BELOW_ZERO, WRONG, check_refused, check_refused_at, nested, number, pair, raised_by,
                           random_source)

QUARTER = (1, 4)


class IsBook(unittest.TestCase):
    def test_by_hand(self):
        wide = (ROAD, TWO, FOUR, tuple((HALF, ZERO, FIVE) for _ in range(6)) + ((ONE, ZERO, ZERO),))
        for book in (BOOK, (ROAD, HALF, ONE, ((ONE, THREE, THREE),), ((ONE, ZERO, (9, 1)),), ((HALF, THREE, THREE),)),
                     BOOK[:3] + (tuple((HALF, ZERO, ONE) for _ in range(8 - 3)) + (((3, 2), ONE, TWO),),) + (
                         ((FOUR, ZERO, ONE),), ((TWO, ONE, TWO),))):
            self.assertIs(True, is_book(book))
            self.assertIs(True, is_book(value=book))
        # Seven and one and one are nine pieces in all.
        self.assertIs(False, is_book(wide + (((FOUR, ZERO, ONE),), ((TWO, ZERO, ZERO),))))

    def test_each_part_wrong(self):
        for part, values in enumerate((
                (ROAD[:2], None, list(ROAD)), (ONE, ZERO, None, [2, 1]), (FIVE, ZERO, None, (-4, 1)),
                ((), None, [(FOUR, ZERO, ONE)], ((FOUR, ONE, ZERO),), ((FOUR, (-1, 1), ONE),), ((THREE, ZERO, ONE),),
                 ((ZERO, ZERO, ONE), (FOUR, ZERO, ONE)), ((FOUR, ZERO),), ((FOUR, ZERO, ONE, ONE),), (FOUR, ZERO, ONE)),
                ((), None, ((FIVE, ZERO, ONE),), ((TWO, ZERO, ONE), (ONE, ZERO, ONE)), ([TWO, ZERO, ONE],) * 2,
                 ((FOUR, ZERO, None),), ((FOUR, ONE, HALF),)),
                ((), None, ((TWO, ZERO, FOUR),), ((TWO, ZERO, (301, 100)),), ((ONE, ZERO, ONE),), ((TWO, TWO, ONE),),
                 ((TWO, (-1, 2), ONE),), ((FOUR, ZERO, ONE),)))):
            for value in values:
                with self.subTest(part=part, value=value):
                    self.assertIs(False, is_book(BOOK[:part] + (value,) + BOOK[part + 1:]))
        for value in WRONG + [nested(14), BOOK[:5], BOOK + ((),), list(BOOK), (BOOK,)]:
            self.assertIs(False, is_book(value))

    def test_eight_and_nine_pieces(self):
        for many, expected in ((3, True), (8, True), (9, False)):
            for which in range(3):
                parts = [1, 1, 1]
                parts[which] += many - 3
                book = BOOK[:3] + tuple(tuple((pair(number(total) / part), ZERO, ONE) for _ in range(part))
                                        for part, total in zip(parts, (FOUR, FOUR, TWO)))
                self.assertIs(expected, is_book(book))
                if expected:
                    self.assertIs(True, is_fitting(book, (BROAD,), (ZERO,) * many))


class Sights(unittest.TestCase):
    CALLS = ((is_fitting, ((ZERO,) * 4,)), (fitting_numbers, ()), (barring_weights, ()), (clashing_sights, ()),
             (fitting_rims, ()), (number_range, (ONE, TWO)), (cars_range, ("in", ZERO, ONE)), (needless_sights, ()))

    def test_indexes(self):
        for sights, index in ((None, None), ((), None), ([SEEN], None), (7, None), ("in", None), ({}, None), (True, None),
                              ((SEEN[:4],), 0), ((SEEN, SEEN + (ONE,)), 1), ((SEEN, BROAD, list(FEW)), 2), (SEEN, 0),
                              ((("off",) + SEEN[1:],), 0), ((("In",) + SEEN[1:],), 0), (((0,) + SEEN[1:],), 0),
                              (((b"in",) + SEEN[1:],), 0), (((["in"],) + SEEN[1:],), 0), ((SEEN, (None,) + SEEN[1:]), 1),
                              ((("in", FOUR, FOUR, ZERO, ONE),), 0), ((("in", FOUR, TWO, ZERO, ONE),), 0),
                              ((("in", (-1, 1), TWO, ZERO, ONE),), 0), ((("in", ZERO, FIVE, ZERO, ONE),), 0),
                              ((("out", ZERO, (401, 100), ZERO, ONE),), 0), ((("start", ZERO, THREE, ZERO, ONE),), 0),
                              ((("start", TWO, FOUR, ZERO, ONE),), 0), ((SEEN, ("start", ZERO, (201, 100), ZERO, ONE)), 1),
                              ((SEEN, ("in", ZERO, ONE, ONE, HALF)), 1), ((SEEN, ("in", ZERO, ONE, (-1, 1), HALF)), 1),
                              ((SEEN, ("in", ZERO, None, ZERO, HALF)), 1), ((SEEN, ("in", 0, ONE, ZERO, HALF)), 1),
                              ((SEEN,) * 7, 6), ((SEEN,) * 9, 6), ((SEEN,) * 5 + (None, SEEN), 5), ((SEEN,) * 6 + (None,), 6)):
            for call, rest in self.CALLS:
                with self.subTest(call=call.__name__, sights=sights):
                    check_refused_at(self, InvalidRow, index, call, BOOK, sights, *rest)
                    check_refused_at(self, InvalidRow, index, call, BOOK, sights, *[None for _ in rest])
        for value in WRONG + [nested(14)]:
            for call, rest in self.CALLS:
                expected = 0 if isinstance(value, tuple) and value else None
                check_refused_at(self, InvalidRow, expected, call, BOOK, value, *rest)
                check_refused_at(self, InvalidRow, 1, call, BOOK, (SEEN, value), *rest)
                if value is not None:
                    check_refused(self, InvalidBook, value, call, value, value, *rest)

    def test_six_and_ends_that_are_let(self):
        told = ("in", ZERO, FOUR, ZERO, ZERO), ("start", ZERO, TWO, ZERO, (10 ** 399, 1)), ("out", (399, 100), FOUR, ZERO, ONE)
        for sights in (told, told * 2, (told[0],) * 6):
            for call, rest in self.CALLS:
                self.assertIsNone(raised_by(call, BOOK, sights, *rest))


class IsFitting(unittest.TestCase):
    def test_by_hand(self):
        for numbers, expected in (((HALF, ZERO, HALF, ZERO), True), ((QUARTER, ZERO, HALF, ZERO), False),
                                  ((ONE, ZERO, HALF, ZERO), True), ((HALF, ZERO, QUARTER, ZERO), False),
                                  (((9, 8), ZERO, HALF, ZERO), False), ((HALF, (1, 9), HALF, ZERO), False)):
            self.assertIs(expected, is_fitting(BOOK, (SEEN, BROAD), numbers))
            self.assertIs(expected, is_fitting(sights=(BROAD, SEEN), value=numbers, book=BOOK))
        # Three cars come in, more than the sight lets, or just as many.
        numbers = ((3, 4), ZERO, HALF, ZERO)
        for high, expected in ((THREE, True), ((299, 100), False), (FOUR, True)):
            self.assertIs(expected, is_fitting(BOOK, (SEEN, ("in", ZERO, FOUR, ZERO, high)), numbers))
            self.assertIs(expected, is_fitting(BOOK, (("in", ZERO, FOUR, pair(6 - number(high)), FOUR), SEEN), numbers))

    def test_whatever_the_value_is(self):
        for value in WRONG + [nested(14), (HALF, ZERO, HALF), (HALF, ZERO, HALF, ZERO, ZERO), [HALF, ZERO, HALF, ZERO],
                              ((1, 2), (0, 1), (1, 2), (False, 1)), (HALF, ZERO, HALF, None), (HALF, ZERO, (2, 4), ZERO)]:
            self.assertIs(False, is_fitting(BOOK, (SEEN, BROAD), value))

    def test_random_ones(self):
        source = random_source(91)
        many = 0
        for book, sights in some_books(92, 120):
            book, sights = loosened(book, sights)
            for parts in (2, 6):
                numbers = tuple(pair(number(low) + (number(high) - number(low)) * Fraction(source.randint(0, parts - 1),
                                                                                           6 if parts == 2 else 12))
                                for _, low, high in book[3] + book[4] + book[5])
                expected = does_fit(book, sights, numbers)
                self.assertIs(expected, is_fitting(book, sights, numbers))
                many += expected
        self.assertGreater(many, 30)


class NumbersOrWeights(unittest.TestCase):
    def check(self, book, sights):
        """Just one of both has to be told, and has to be right."""
        numbers, weights = fitting_numbers(book, sights), barring_weights(book, sights)
        if numbers is not None:
            self.assertIsNone(weights)
            self.assertTrue(does_fit(book, sights, numbers))
            self.assertIs(True, is_fitting(book, sights, numbers))
            rims = fitting_rims(book, sights)
            self.assertTrue(is_rims(rims) and can_be(rims))
            self.check_rims(book, sights, rims)
            return True
        self.assertIs(NoneFits, raised_by(fitting_rims, book, sights).__class__)
        self.check_weights(book, sights, weights)
        return False

    def check_weights(self, book, sights, weights):
        """The forms have to add up to one number below 0."""
        self.assertIsInstance(weights, tuple)
        self.assertEqual(len(weights), len({condition for condition, _ in weights}))
        for _, amount in weights:
            self.assertGreater(number(amount), 0)
            self.assertEqual(amount, pair(number(amount)))
        slopes, constant = sum_of_weights(book, sights, weights)
        self.assertEqual([0] * len(slopes), slopes)
        self.assertLess(constant, 0)

    def check_rims(self, book, sights, rims):
        """Rims of numbers that fit: the beginning piece by piece, the others by their numbers."""
        self.assertEqual(book[:2], rims[:2])
        self.assertEqual(book[2], rims[5])
        self.assertEqual([width for width, _, _ in book[5]], [width for width, _ in rims[2]])
        rates = []
        for pieces, counts in zip(book[3:5], rims[3:5]):
            line, begin = [(number(moment), number(told)) for moment, told in counts], Fraction(0)
            for width, _, _ in pieces:
                end = begin + number(width)
                told = [cut_counts(line, moment)[-1][1] if moment else counts[0][1] for moment in (begin, end)]
                rates.append(pair((number(told[1]) - number(told[0])) / (end - begin)))
                begin = end
        self.assertTrue(does_fit(book, sights, tuple(rates) + tuple(density for _, density in rims[2])))

    def test_by_hand(self):
        for sights, expected in (((SEEN, BROAD), True), ((SEEN, FEW), False), ((FEW,), True), ((SEEN,), True),
                                 ((BROAD, FEW, SEEN), False), ((("start", ZERO, ONE, ONE, ONE),), False)):
            self.assertIs(expected, self.check(BOOK, sights))
        # Nobody stands on the road; one goes out as soon as nobody can have come through.
        book = BOOK[:4] + (((TWO, (1, 10 ** 30), ONE), (TWO, ZERO, ONE)),) + BOOK[5:]
        self.assertIs(False, self.check(book, (BROAD,)))
        self.assertEqual((), clashing_sights(book, (BROAD,)))

    def test_one_number_alone(self):
        for rate, expected in ((HALF, True), (QUARTER, False), ((49, 100), False), ((51, 100), True)):
            book = BOOK[:3] + (((FOUR, rate, rate),), ((TWO, ZERO, ZERO), (TWO, HALF, HALF)), ((TWO, ZERO, ZERO),))
            self.assertIs(expected, self.check(book, (BROAD,)))
            if expected:
                self.assertEqual((rate, ZERO, HALF, ZERO), fitting_numbers(book, (BROAD,)))

    def test_random_ones(self):
        found = [self.check(book, sights) for book, sights in some_books(93, 130)]
        self.assertGreater(found.count(False), 30)
        self.assertGreater(found.count(True), 15)
        found = [self.check(*loosened(book, sights)) for book, sights in some_books(94, 40)]
        self.assertEqual(40, found.count(True))

    def test_eight_pieces_and_six_sights(self):
        source = random_source(95)
        many = 0
        while many < 12:
            book = random_book(source, 4, corners=(3, 6))
            if len(book[3]) + len(book[4]) + len(book[5]) == 8:
                many += 1
                sights = tuple(random_sight(source, book) for _ in range(6))
                self.check(book, sights)
                self.check(*loosened(book, sights))

    def test_against_all_corners_of_three_numbers(self):
        found = []
        for book, sights in some_books(96, 14, pieces=1):
            forms = [condition_form(book, sights, condition) for condition in all_conditions(book, sights)]
            found.append(self.check(book, sights))
            self.assertIs(bool(vertices(forms)), found[-1])
        self.assertEqual({False, True}, set(found))


class Ranges(unittest.TestCase):
    def test_by_hand(self):
        self.assertEqual((HALF, ONE), number_range(BOOK, (SEEN, BROAD), ONE, TWO))
        self.assertEqual((ONE, TWO), cars_range(BOOK, (SEEN,), "in", ZERO, TWO))
        self.assertEqual((HALF, HALF), cars_range(BOOK, (SEEN,), "out", TWO, THREE))
        self.assertEqual((ZERO, ZERO), cars_range(BOOK, (SEEN,), "start", HALF, TWO))
        self.assertEqual((ZERO, HALF), cars_range(other=FOUR, fraction=ZERO, side="out", sights=(FEW,), book=BOOK))
        self.assertEqual((TWO, FOUR), number_range(moment=FOUR, place=ZERO, sights=(SEEN,), book=BOOK))
        self.assertEqual((ONE, ONE), number_range(BOOK, (SEEN,), TWO, FOUR))
        self.assertEqual((ZERO, ZERO), number_range(BOOK, (SEEN,), ONE, ZERO))

    def test_from_a_corner_alone(self):
        # Where cars spread out, those of a density of a corner of the kind all come from one point.
        book = (LEVEL, FOUR, FOUR, ((FOUR, THREE, THREE),), ((FOUR, ZERO, THREE),), ((FOUR, ZERO, ZERO),))
        self.assertEqual((ONE, ONE), number_range(book, (("out", ZERO, ONE, ZERO, ONE),), THREE, TWO))
        book = (LEVEL, (8, 1), FOUR, ((FOUR, ZERO, ONE),), ((FOUR, ZERO, THREE),), ((TWO, THREE, THREE), (SIX, ZERO, ZERO)))
        self.assertEqual(((-5, 1), (-5, 1)), number_range(book, (("out", ZERO, ONE, ZERO, ONE),), FIVE, TWO))

    def check_cars(self, book, sights, side, first, last):
        """The ends of the range have to be reached, and nothing beyond them."""
        low, high = cars_range(book, sights, side, first, last)
        self.assertGreaterEqual(number(low), 0)
        self.assertLessEqual(number(low), number(high))
        room = max(Fraction(1), number(high) * 2)
        for told, expected in (((side, first, last, low, low), True), ((side, first, last, high, high), True),
                               ((side, first, last, ZERO, pair(number(low) - Fraction(1, 10 ** 9))), False),
                               ((side, first, last, pair(number(high) + Fraction(1, 10 ** 9)), pair(room)), False)):
            if told[4][0] >= 0:
                self.assertIs(expected, self.check(book, sights + (told,)))

    check, check_weights = NumbersOrWeights.check, NumbersOrWeights.check_weights
    check_rims = NumbersOrWeights.check_rims

    def test_cars(self):
        source = random_source(97)
        many = 0
        for book, sights in some_books(98, 60):
            for told, kept in ((book, sights), loosened(book, sights)):
                if fitting_numbers(told, kept) is not None:
                    many += 1
                    side, first, last, _, _ = random_sight(source, told)
                    self.check_cars(told, kept, side, first, last)
        self.assertGreater(many, 60)

    def test_numbers_against_all_corners_of_three_numbers(self):
        source = random_source(99)
        many = 0
        for book, sights in some_books(100, 30, pieces=1):
            book, sights = (book, sights) if many % 2 else loosened(book, sights)
            forms = [condition_form(book, sights, condition) for condition in all_conditions(book, sights)]
            corners = vertices(forms)
            if not corners or many == 12:
                continue
            many += 1
            point = (number(book[1]) * Fraction(source.randint(0, 6), 6), number(book[2]) * Fraction(source.randint(0, 6), 6))
            low, high = number_range(book, sights, *map(pair, point))
            sources = source_forms(book, point)
            self.assertEqual(min(at(form, corner) for corner in corners for form in sources), number(low))
            for bound, expected in ((number(high), True), (number(high) + Fraction(1, 10 ** 9), False)):
                raised = [(slopes, constant - bound) for slopes, constant in sources]
                self.assertIs(expected, bool(vertices(forms + raised)))
            side, first, last, _, _ = random_sight(source, book)
            form = form_from(lambda told: cars_counted(book, told, side, number(first), number(last)), 3)
            found = [at(form, corner) for corner in corners]
            self.assertEqual((pair(min(found)), pair(max(found))), cars_range(book, sights, side, first, last))

    def test_numbers_between(self):
        source = random_source(101)
        for book, sights in some_books(102, 40):
            book, sights = loosened(book, sights)
            place = pair(number(book[1]) * Fraction(source.randint(0, 12), 12))
            moment = pair(number(book[2]) * Fraction(source.randint(0, 12), 12))
            low, high = number_range(book, sights, place, moment)
            # Numbers at the ends of other ranges, and between them.
            ends = []
            for _ in range(4):
                side, first, last, _, _ = random_sight(source, book)
                told = cars_range(book, sights, side, first, last)[source.randint(0, 1)]
                ends.append(fitting_numbers(book, sights[:5] + ((side, first, last, told, told),)))
            ends.append(tuple(pair((number(one) + number(other)) / 2) for one, other in zip(ends[0], ends[1])))
            for numbers in ends:
                rims = rims_of_book(book, numbers)
                if does_fit(book, sights, numbers):
                    settled = settled_number(rims, (number(place), number(moment)))
                    self.assertEqual(pair(settled), inner_number(rims, place, moment))
                    self.assertTrue(number(low) <= settled <= number(high))

    def test_on_the_sides_it_is_what_is_counted(self):
        for book, sights in some_books(103, 25):
            book, sights = loosened(book, sights)
            last, length = book[2], book[1]
            moment, place = pair(number(last) * Fraction(3, 7)), pair(number(length) * Fraction(3, 7))
            self.assertEqual(cars_range(book, sights, "in", ZERO, moment), number_range(book, sights, ZERO, moment))
            low, high = cars_range(book, sights, "start", ZERO, place)
            self.assertEqual(((-high[0], high[1]), (-low[0], low[1])), number_range(book, sights, place, ZERO))
            self.assertEqual((ZERO, ZERO), number_range(book, sights, ZERO, ZERO))

    def test_wrong_arguments(self):
        clash = (SEEN, FEW)
        self.assertIs(NoneFits, raised_by(number_range, BOOK, clash, ONE, TWO).__class__)
        self.assertIs(NoneFits, raised_by(cars_range, BOOK, clash, "start", ONE, TWO).__class__)
        self.assertIs(NoneFits, raised_by(fitting_rims, sights=clash, book=BOOK).__class__)
        self.assertIs(NoneFits, raised_by(needless_sights, BOOK, clash).__class__)
        for value in WRONG + BELOW_ZERO + [FIVE, (401, 100)]:
            check_refused(self, InvalidMoment, value, number_range, BOOK, clash, TWO, value)
            check_refused(self, InvalidMoment, value, number_range, moment=value, place=TWO, sights=(SEEN,), book=BOOK)
            check_refused(self, InvalidFraction, value, cars_range, BOOK, clash, "in", ZERO, value)
        for value in WRONG + BELOW_ZERO + [THREE, (201, 100)]:
            check_refused(self, InvalidPlace, value, number_range, BOOK, clash, value, None)
            check_refused(self, InvalidFraction, value, cars_range, BOOK, clash, "start", ZERO, value)
        for value in WRONG + ["In", "in ", "ins", b"in", ("in",), ["start"], "inout", "sta"]:
            check_refused(self, InvalidName, value, cars_range, BOOK, clash, value, None, None)
            check_refused(self, InvalidName, value, cars_range, other=ONE, fraction=ZERO, side=value, sights=clash, book=BOOK)
        for side, value in (("in", FOUR), ("out", FIVE), ("start", TWO), ("start", THREE), ("in", (-1, 1)), ("out", None),
                            ("in", (2, 4)), ("out", [0, 1]), ("start", 0)):
            check_refused(self, InvalidFraction, value, cars_range, BOOK, clash, side, value, None)
            check_refused(self, InvalidFraction, value, cars_range, BOOK, (SEEN,), side, value, value)
        for side, first, value in (("in", ONE, ONE), ("out", TWO, ONE), ("start", HALF, (201, 100)), ("in", ZERO, ZERO),
                                   ("in", ZERO, (401, 100)), ("start", ONE, FOUR)):
            check_refused(self, InvalidFraction, value, cars_range, BOOK, clash, side, first, value)


class ClashingAndNeedless(unittest.TestCase):
    def test_by_hand(self):
        self.assertEqual(((0, 1), (), (1, 2), (0, 2)), tuple(clashing_sights(BOOK, sights) for sights in (
            (SEEN, FEW), (SEEN, BROAD), (BROAD, SEEN, FEW), (SEEN, BROAD, FEW))))
        # One that lets nothing by itself, and the same one twice: the last one is left out.
        nobody = ("start", ZERO, ONE, ONE, TWO)
        self.assertEqual(((0,), (1,), (0,), (0,), (1,)), tuple(clashing_sights(BOOK, sights) for sights in (
            (nobody,), (SEEN, nobody), (nobody, nobody), (nobody, FEW, SEEN), (SEEN, nobody, nobody, FEW))))
        self.assertEqual((0, 1), clashing_sights(BOOK, (SEEN, FEW, SEEN, FEW, SEEN, FEW)))
        self.assertEqual(((1,), (), (0, 1), (), (1,)), tuple(needless_sights(BOOK, sights) for sights in (
            (SEEN, BROAD), (SEEN,), (SEEN, SEEN), (FEW,), (FEW, BROAD))))

    def check_clash(self, book, sights):
        """The sights that clash, left out one behind the other by the words."""
        fits = lambda kept: NumbersOrWeights.check(self, book, tuple(sights[one] for one in kept)) if kept else None
        expected = list(range(len(sights)))
        if fits(expected):
            expected = []
        elif raised_by(cars_range, book, (("in", ZERO, book[2], ZERO, (10 ** 9, 1)),), "in", ZERO, book[2]) is not None:
            expected = []
        else:
            for one in reversed(range(len(sights))):
                rest = [other for other in expected if other != one]
                if rest and not fits(rest):
                    expected = rest
        self.assertEqual(tuple(expected), clashing_sights(book, sights))
        return expected

    check_weights, check_rims = NumbersOrWeights.check_weights, NumbersOrWeights.check_rims

    def test_clashing(self):
        found = []
        for book, sights in some_books(104, 50, sights=6):
            found.append(len(self.check_clash(book, sights)))
            found.append(len(self.check_clash(loosened(book, sights)[0], sights)))
        self.assertTrue({0, 1, 2} <= set(found))

    def test_needless(self):
        found = set()
        for book, sights in some_books(105, 30, sights=4):
            book = loosened(book, sights)[0]
            kept = tuple(sight[:3] + (ZERO, sight[4]) for sight in sights)
            kept = kept + (kept[0],) if len(kept) % 2 else kept
            told = needless_sights(book, kept)
            for which, (side, first, last, low, high) in enumerate(kept):
                rest = kept[:which] + kept[which + 1:]
                expected = False
                if rest:
                    least, most = cars_range(book, rest, side, first, last)
                    expected = number(low) <= number(least) and number(most) <= number(high)
                self.assertIs(expected, which in told)
                found.add(expected)
            self.assertEqual(tuple(sorted(set(told))), told)
        self.assertEqual({False, True}, found)

    def test_needless_by_the_low_bound_too(self):
        # As many go out as seen: so at least so many come in, and no more than the book lets.
        for low, expected in ((TWO, (1,)), ((201, 100), ()), (ONE, (1,))):
            self.assertEqual(expected, needless_sights(BOOK, (SEEN, ("in", ZERO, FOUR, low, SIX))))

    def test_wrong_books(self):
        for value in WRONG + [BOOK[:5], list(BOOK)]:
            for call, rest in Sights.CALLS:
                check_refused(self, InvalidBook, value, call, value, (SEEN,), *rest)
                check_refused(self, InvalidBook, value, call, value, None, *[None for _ in rest])


class NumbersOfAnySize(unittest.TestCase):
    def test_great_and_small_ones(self):
        for unit in (Fraction(10) ** 390, Fraction(1, 3 ** 600)):
            kind = tuple((pair(number(density) / unit), pair(number(flow) / unit)) for density, flow in ROAD)
            scaled = lambda value: pair(number(value) * unit)
            rate = lambda value: pair(number(value) / unit)
            lots = [tuple((scaled(width), rate(low), rate(high)) for width, low, high in pieces) for pieces in BOOK[3:]]
            book = (kind, scaled(TWO), scaled(FOUR)) + tuple(lots)
            seen, few = [sight[:1] + (scaled(sight[1]), scaled(sight[2])) + sight[3:] for sight in (SEEN, FEW)]
            self.assertEqual((HALF, ONE), number_range(book, (seen,), scaled(ONE), scaled(TWO)))
            self.assertEqual((ONE, TWO), cars_range(book, (seen,), "in", ZERO, scaled(TWO)))
            self.assertEqual((0, 1), clashing_sights(book, (seen, few)))
            NumbersOrWeights.check_weights(self, book, (seen, few), barring_weights(book, (seen, few)))
            self.assertIs(True, is_fitting(book, (seen,), fitting_numbers(book, (seen,))))


if __name__ == "__main__":
    unittest.main()
