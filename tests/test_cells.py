"""Cells: steps by cells and true ones, held against least sums of the tests' own, and rows that part them."""

import unittest
from fractions import Fraction
from math import ceil, floor

from roadwaves.cells import cell_run, cell_step, cells_fit, true_step, unlike_row
from roadwaves.errors import InvalidRow, TooMany
from tests.scene_support import (FOUR, HALF, LEVEL, ONE, ROAD, THREE, TWO, ZERO, on_line, speeds_in, toll_of)
from tests.support import (WRONG, check_refused_at, number, pair, raised_by, random_fraction, random_kind, random_source)

EVENLY = ((0, 1), (-1, 1), (-2, 1), (-3, 1), (-4, 1))
# All speeds are whole, from 3 to -2.
WHOLE = ((ZERO, ZERO), (ONE, THREE), (TWO, FOUR), (THREE, FOUR), (FOUR, THREE), ((11, 2), ZERO))


def random_row(source, kind, dx, many):
    """A row of so many numbers for a distance of Python's own."""
    full, told = number(kind[-1][0]), random_fraction(source, -3, 3)
    found = [told]
    for _ in range(many - 1):
        told = told - full * dx * source.choice([Fraction(0), Fraction(1), Fraction(source.randint(0, 12), 12)])
        found.append(told)
    return tuple(map(pair, found))


def places_left(kind, dx, dt, many):
    """The places of which all cars surely come from within a row of so many places."""
    speeds = speeds_in(kind)
    return range(ceil(speeds[0] * dt / dx), floor(many - 1 + speeds[-1] * dt / dx) + 1)


def by_cells(kind, dx, dt, row):
    """The numbers by cells a step later, all of them Python's own fractions."""
    found = []
    for at in places_left(kind, dx, dt, len(row)):
        tolls = [(told, toll_of(kind, (at - by) * dx, dt)) for by, told in enumerate(row)]
        found.append(min(told + toll for told, toll in tolls if toll is not None))
    return found


def truly(kind, dx, dt, row):
    """The true numbers a step later: the least over all bends of number plus toll."""
    line = [(at * dx, told) for at, told in enumerate(row)]
    found = []
    for at in places_left(kind, dx, dt, len(row)):
        origins = [place for place, _ in line] + [at * dx - speed * dt for speed in speeds_in(kind)]
        tolls = [(on_line(line, origin), toll_of(kind, at * dx - origin, dt)) for origin in origins
                 if 0 <= origin <= line[-1][0]]
        found.append(min(told + toll for told, toll in tolls if toll is not None))
    return found


def random_cells(seed, many):
    """Kinds with distances and durations of Python's own and rows."""
    source = random_source(seed)
    found = []
    for at in range(many):
        kind = [ROAD, LEVEL, WHOLE, random_kind(source, source.randint(2, 6))][at % 4]
        dx, dt = Fraction(source.randint(1, 6), source.randint(1, 3)), Fraction(source.randint(1, 6), source.randint(1, 6))
        found.append((kind, dx, dt, random_row(source, kind, dx, source.choice([2, 3, 5, 9, 17, 40]))))
    return found


class Fit(unittest.TestCase):
    def test_by_hand(self):
        self.assertEqual([True, False, True, False], [cells_fit(ROAD, ONE, dt) for dt in (TWO, ONE, FOUR, THREE)])
        self.assertEqual([True, True, False], [cells_fit(WHOLE, dx, ONE) for dx in (ONE, HALF, TWO)])
        self.assertIs(True, cells_fit(ROAD, (1, 10 ** 300), TWO))

    def test_held_against_speeds(self):
        for kind, dx, dt, _ in random_cells(1, 80):
            for share in (dt, dx * 4, dx * dx, dx / 4):
                expected = all((speed * share / dx).denominator == 1 for speed in speeds_in(kind))
                self.assertIs(expected, cells_fit(kind, pair(dx), pair(share)))


class Steps(unittest.TestCase):
    def test_by_hand(self):
        self.assertEqual((ZERO, (-1, 1)), cell_step(ROAD, ONE, TWO, EVENLY))
        self.assertEqual((ZERO, (-1, 1)), true_step(ROAD, ONE, TWO, EVENLY))
        # Of a density 2 the way with -1 / 2 starts between two places.
        full = ((0, 1), (-2, 1), (-4, 1), (-6, 1))
        self.assertEqual(((-3, 2), (-7, 2)), true_step(ROAD, ONE, ONE, full))
        self.assertEqual(((-1, 1), (-3, 1)), cell_step(ROAD, ONE, ONE, full))

    def test_held_against_least_sums(self):
        for kind, dx, dt, row in random_cells(2, 160):
            told = [number(one) for one in row]
            with self.subTest(kind=kind, dx=dx, dt=dt, row=row):
                cells, true = cell_step(kind, pair(dx), pair(dt), row), true_step(kind, pair(dx), pair(dt), row)
                self.assertEqual((tuple, tuple), (cells.__class__, true.__class__))
                self.assertEqual(tuple(map(pair, by_cells(kind, dx, dt, told))), cells)
                self.assertEqual(tuple(map(pair, truly(kind, dx, dt, told))), true)
                self.assertTrue(all(number(one) >= number(other) for one, other in zip(cells, true)))
                if cells_fit(kind, pair(dx), pair(dt)):
                    self.assertEqual(true, cells)

    def test_no_place_is_left(self):
        for many in (2, 3):
            for call in (cell_step, true_step):
                self.assertEqual((), call(ROAD, ONE, TWO, EVENLY[:many]))
        self.assertEqual(1, len(cell_step(ROAD, ONE, TWO, EVENLY[:4])))
        self.assertEqual((), cell_step(ROAD, (1, 10 ** 30), TWO, (ZERO,) * 40))

    def test_a_short_step(self):
        # Even a step of next to no time takes a place at either end.
        little = (1, 10 ** 300)
        self.assertEqual(3, len(cell_step(ROAD, ONE, little, EVENLY)))
        self.assertEqual((), cell_step(ROAD, ONE, little, EVENLY[:2]))
        self.assertEqual(1, len(true_step(ROAD, ONE, little, EVENLY[:3])))

    def test_rows_of_two_and_of_forty(self):
        for call in (cell_step, true_step):
            self.assertIsNone(raised_by(call, ROAD, ONE, TWO, (ZERO, ZERO)))
            self.assertEqual(37, len(call(ROAD, ONE, TWO, (ZERO,) * 40)))

    def test_several_steps_at_once(self):
        # If cells fit, steps of cells are as one longer step.
        for kind, share in ((ROAD, 2), (WHOLE, 1)):
            source = random_source(3)
            for _ in range(10):
                row = random_row(source, kind, Fraction(1), 40)
                for count in (1, 2, 3):
                    self.assertEqual(true_step(kind, ONE, (share * count, 1), row),
                                     cell_run(kind, ONE, (share, 1), row, count))


class Run(unittest.TestCase):
    def test_held_against_steps(self):
        for kind, dx, dt, row in random_cells(4, 80):
            dx, dt = pair(dx), pair(dt / 4)
            expected = row
            for count in range(6):
                self.assertEqual(expected, cell_run(kind, dx, dt, row, count))
                expected = cell_step(kind, dx, dt, expected) if len(expected) > 1 else ()

    def test_no_step(self):
        self.assertEqual(EVENLY, cell_run(ROAD, ONE, TWO, EVENLY, 0))

    def test_until_too_few_are_left(self):
        self.assertEqual([(ZERO, (-1, 1)), (), ()], [cell_run(ROAD, ONE, TWO, EVENLY, count) for count in (1, 2, 20)])
        # One number is told, but does not go on.
        self.assertEqual([1, 0, 0], [len(cell_run(ROAD, ONE, TWO, EVENLY[:4], count)) for count in (1, 2, 3)])
        many = [len(cell_run(ROAD, ONE, TWO, (ZERO,) * 40, count)) for count in range(21)]
        self.assertEqual([40 - 3 * count for count in range(14)] + [0] * 7, many)

    def test_long_runs(self):
        little = (1, 100)
        self.assertEqual([2, 0], [len(cell_run(ROAD, ONE, little, (ZERO,) * 40, count)) for count in (19, 20)])


class Rows(unittest.TestCase):
    def refused(self, index, row, kind=ROAD, dx=ONE):
        for call in (cell_step, true_step):
            check_refused_at(self, InvalidRow, index, call, kind, dx, TWO, row)
            check_refused_at(self, InvalidRow, index, call, row=row, dt=TWO, dx=dx, kind=kind)
        check_refused_at(self, InvalidRow, index, cell_run, kind, dx, TWO, row, 2)
        check_refused_at(self, InvalidRow, index, cell_run, kind, dx, TWO, row, None)

    def test_no_rows(self):
        for row in (None, [], list(EVENLY), (), (ZERO,), (ZERO,) * 41, (None,) * 41, (None,), 5, "row", {}):
            self.refused(None, row)

    def test_no_fractions(self):
        for at in range(5):
            for value in WRONG:
                self.refused(at, EVENLY[:at] + (value,) + EVENLY[at + 1:])

    def test_rising(self):
        for at in range(1, 5):
            self.refused(at, EVENLY[:at] + (ONE,) + EVENLY[at + 1:])
        self.refused(1, (ZERO, (1, 10 ** 300)))
        self.refused(2, (ZERO, (-1, 1), (-1, 2), None))

    def test_falling_too_much(self):
        little = Fraction(1, 10 ** 300)
        self.refused(1, (ZERO, pair(-3 - little)))
        self.refused(2, (ZERO, ZERO, (-4, 1), (-5, 1)))
        self.refused(1, (ZERO, (-2, 1)), ROAD, HALF)
        self.refused(1, (ZERO, (-5, 1)), LEVEL)
        for row, kind, dx in (((ZERO, (-3, 1)), ROAD, ONE), ((ONE, (-2, 1), (-5, 1)), ROAD, ONE),
                              ((ZERO, (-3, 2)), ROAD, HALF), ((ZERO, (-9, 2)), LEVEL, ONE)):
            self.assertIsNone(raised_by(cell_step, kind, dx, TWO, row))

    def test_the_first_wrong_one(self):
        self.refused(2, (ZERO, ZERO, ONE, None, None))
        self.refused(1, (ZERO, None, ONE))


class UnlikeRow(unittest.TestCase):
    def check(self, kind, dx, dt):
        """Where cells do not fit there is a row that shows it, unless too many places were needed."""
        speeds = speeds_in(kind)
        share = number(dt) / number(dx)
        many = ceil(speeds[0] * share) + ceil(-speeds[-1] * share) + 1
        error = raised_by(unlike_row, kind, dx, dt)
        if cells_fit(kind, dx, dt):
            self.assertIsNone(error)
            self.assertIsNone(unlike_row(kind, dx, dt))
        elif many > 40:
            self.assertEqual((TooMany, many), (error.__class__, error.given))
        else:
            row = unlike_row(kind, dx, dt)
            told = [number(one) for one in row]
            self.assertNotEqual(by_cells(kind, number(dx), number(dt), told),
                                truly(kind, number(dx), number(dt), told))
            self.assertNotEqual(cell_step(kind, dx, dt, row), true_step(kind, dx, dt, row))

    def test_held_against_both_steps(self):
        for kind, dx, dt, _ in random_cells(5, 120):
            for share in (1, 2, 3, Fraction(7, 2), 12, Fraction(1, 1000)):
                self.check(kind, pair(dx), pair(dt * share))

    def test_none(self):
        self.assertIsNone(unlike_row(ROAD, ONE, TWO))
        # Of any length, and so for any steps: nothing is too many then.
        self.assertIsNone(unlike_row(ROAD, ONE, (2 * 10 ** 300, 1)))

    def test_just_forty_places(self):
        for dt in range(1, 60):
            self.check(ROAD, ONE, (dt, 1))
            self.check(ROAD, TWO, (dt, 1))
        self.assertEqual(40, len(unlike_row(ROAD, TWO, (51, 1))))
        error = raised_by(unlike_row, ROAD, ONE, (27, 1))
        self.assertEqual((TooMany, 42), (error.__class__, error.given))
        self.assertEqual(39, len(unlike_row(ROAD, ONE, (25, 1))))
        error = raised_by(unlike_row, ROAD, ONE, (2 * 10 ** 300 + 1, 1))
        self.assertEqual(3 * 10 ** 300 + 3, error.given)

    def test_only_one_speed_does_not_fit(self):
        # The back speed, one between, or the free speed alone leads between two places.
        self.check(ROAD, ONE, ONE)
        between = ((ZERO, ZERO), (ONE, TWO), (TWO, (5, 2)), ((9, 2), ZERO))
        self.assertEqual([2, Fraction(1, 2), -1], speeds_in(between))
        self.check(between, ONE, ONE)
        free = ((ZERO, ZERO), (TWO, THREE), ((5, 1), ZERO))
        self.assertEqual([Fraction(3, 2), -1], speeds_in(free))
        self.check(free, ONE, ONE)


if __name__ == "__main__":
    unittest.main()
