"""All functions of waits, marks, rims and books: their parameters and errors."""

import unittest
from fractions import Fraction
from inspect import signature

from roadwaves import books, marks, rims, waits
from roadwaves.errors import (InvalidAmount, InvalidBook, InvalidFraction, InvalidMarks, InvalidMoment, InvalidName,
                              InvalidPlace, InvalidRims, InvalidRow, InvalidScene)
from roadwaves.scenes import all_cars
from tests.rim_support import BOOK, BROAD, SEEN, THROUGH
from tests.scene_support import FOUR, HALF, ONE, STREET, TWO, ZERO, some_scenes
from tests.support import (BELOW_ZERO, WRONG, check_order, check_refused_at, check_wrong_values, nested, number, pair,
                           raised_by)

SIGHTS = (SEEN, BROAD)
FUNCTIONS = {
    waits: [(name, "scene", (STREET,), (InvalidScene,))
            for name in ("latest_comings", "time_spent", "waited_ahead", "held_back")],
    marks: [("marked_counts", "scene marks place", (STREET, ((ZERO, ONE),), TWO),
             (InvalidScene, InvalidMarks, InvalidPlace))],
    rims: [
        ("can_be", "rims", (THROUGH,), (InvalidRims,)),
        ("barring_pair", "rims", (THROUGH,), (InvalidRims,)),
        ("inner_number", "rims place moment", (THROUGH, ONE, TWO), (InvalidRims, InvalidPlace, InvalidMoment)),
        ("inner_start", "rims place moment", (THROUGH, ONE, TWO), (InvalidRims, InvalidPlace, InvalidMoment)),
        ("rims_of", "scene last", (STREET, FOUR), (InvalidScene, InvalidMoment)),
    ],
    books: [
        ("fitting_numbers", "book sights", (BOOK, SIGHTS), (InvalidBook, InvalidRow)),
        ("barring_weights", "book sights", (BOOK, SIGHTS), (InvalidBook, InvalidRow)),
        ("clashing_sights", "book sights", (BOOK, SIGHTS), (InvalidBook, InvalidRow)),
        ("fitting_rims", "book sights", (BOOK, SIGHTS), (InvalidBook, InvalidRow)),
        ("number_range", "book sights place moment", (BOOK, SIGHTS, ONE, TWO),
         (InvalidBook, InvalidRow, InvalidPlace, InvalidMoment)),
        ("cars_range", "book sights side fraction other", (BOOK, SIGHTS, "in", ZERO, ONE),
         (InvalidBook, InvalidRow, InvalidName, InvalidFraction, InvalidFraction)),
        ("needless_sights", "book sights", (BOOK, SIGHTS), (InvalidBook, InvalidRow)),
    ],
}
# These take whatever it is as their last argument.
WHATEVER = [(rims.is_rims, "value", (THROUGH,)), (books.is_book, "value", (BOOK,)),
            (books.is_fitting, "book sights value", (BOOK, SIGHTS, (HALF, ZERO, HALF, ZERO)))]
CALLS = [(getattr(module, row[0]), row[1].split(), row[2], row[3]) for module, rows in FUNCTIONS.items() for row in rows]
EVERY = [(call, parameters, values) for call, parameters, values, _ in CALLS] + [
    (call, parameters.split(), values) for call, parameters, values in WHATEVER]

REFUSED = {
    InvalidScene: WRONG + [nested(14), STREET[:4], list(STREET), (STREET,)],
    InvalidRims: WRONG + [nested(14), THROUGH[:5], list(THROUGH), (THROUGH,), THROUGH + (ONE,)],
    InvalidBook: WRONG + [nested(14), BOOK[:5], list(BOOK), (BOOK,), BOOK + (ONE,)],
    InvalidPlace: WRONG + BELOW_ZERO + [(5, 1), (4 * 10 ** 300 + 1, 10 ** 300)],
    InvalidMoment: WRONG + BELOW_ZERO,
    InvalidName: WRONG,
    InvalidFraction: WRONG + BELOW_ZERO + [(5, 1), FOUR[:1] + (1,) + (0,)],
}


class Interface(unittest.TestCase):
    def test_names_of_functions_and_parameters(self):
        for module, rows in FUNCTIONS.items():
            for name, parameters, _, _ in rows:
                function = getattr(module, name)
                self.assertEqual(module.__name__, function.__module__)
                self.assertEqual(parameters.split(), list(signature(function).parameters))
        for function, parameters, _ in WHATEVER:
            self.assertEqual(parameters.split(), list(signature(function).parameters))
        self.assertEqual({"roadwaves.rims", "roadwaves.books"}, {row[0].__module__ for row in WHATEVER})

    def test_arguments_by_name_and_equal_calls(self):
        for call, parameters, values in EVERY:
            with self.subTest(call=call.__name__):
                found = call(*values)
                self.assertEqual(found, call(**dict(reversed(list(zip(parameters, values))))))
                self.assertEqual(found, call(*values))
                for at in range(len(values)):
                    self.assertEqual(found, call(*values[:at], **dict(zip(parameters[at:], values[at:]))))


class Errors(unittest.TestCase):
    def test_told_by_what_was_given(self):
        for call, _, values, errors in CALLS:
            for at, error in enumerate(errors):
                if error in REFUSED:
                    check_wrong_values(self, call, values, at, error, REFUSED[error])

    def test_told_by_index(self):
        wrong = {InvalidRow: (((), None), ([], None), ((SEEN, 5), 1), ((SEEN,) * 7, 6)),
                 InvalidMarks: (([], None), (None, None), (((ONE, ZERO),), 0), (((ZERO, ONE), (HALF, TWO)), 1))}
        for call, parameters, values, errors in CALLS:
            for at, error in enumerate(errors):
                for value, index in wrong.get(error, ()):
                    passed = values[:at] + (value,) + values[at + 1:]
                    check_refused_at(self, error, index, call, *passed)
                    check_refused_at(self, error, index, call, **dict(zip(parameters, passed)))

    def test_the_first_of_several(self):
        for call, _, values, errors in CALLS:
            check_order(self, call, values, errors)
        for values, error in ((([], [], []), InvalidBook), ((BOOK, [], []), InvalidRow)):
            self.assertIs(error, raised_by(books.is_fitting, *values).__class__)
            self.assertIs(error, raised_by(books.is_fitting, **dict(zip(("book", "sights", "value"), values))).__class__)

    def test_an_amount_is_no_moment(self):
        self.assertIs(InvalidMoment, raised_by(rims.rims_of, STREET, ZERO).__class__)
        self.assertNotIsInstance(raised_by(rims.rims_of, STREET, ZERO), InvalidAmount)


class NumbersOfAnySize(unittest.TestCase):
    def test_what_was_returned_may_be_passed(self):
        for scene in some_scenes(6, 6):
            for last in (ONE, pair(Fraction(7, 10 ** 400 + 1) + 2)):
                told = rims.rims_of(scene, last)
                self.assertIs(True, rims.can_be(told))
                place = pair(number(scene[1]) * Fraction(1, 10 ** 300 + 1))
                start = rims.inner_start(told, place, last)
                self.assertLessEqual(number(rims.inner_number(told, *start)), number(rims.inner_number(told, place, last)))
            spent = waits.time_spent(scene)
            self.assertLessEqual(number(waits.held_back(scene)), number(spent))
            if all_cars(scene) != ZERO:
                line = marks.marked_counts(scene, ((ZERO, all_cars(scene)),), place)
                self.assertEqual(all_cars(scene), line[-1][1])


class NothingIsChanged(unittest.TestCase):
    def test_arguments_stay_as_they_are(self):
        for call, _, values in EVERY:
            kept = repr(values)
            call(*values)
            self.assertEqual(kept, repr(values))

    def test_results_are_tuples_all_through(self):
        def check(value):
            self.assertIn(value.__class__, (tuple, int, bool, str, type(None)))
            if isinstance(value, tuple):
                for part in value:
                    check(part)
        for call, _, values in EVERY:
            check(call(*values))
        check(books.barring_weights(BOOK, (SEEN, ("in", ZERO, FOUR, ZERO, ZERO))))
        check(books.clashing_sights(BOOK, (SEEN, ("in", ZERO, FOUR, ZERO, ZERO))))


if __name__ == "__main__":
    unittest.main()
