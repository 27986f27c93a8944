"""Marked cars: how many of them have gone by at a place."""

import unittest
from fractions import Fraction

from roadwaves.counts import is_counts, number_of, when
from roadwaves.errors import InvalidMarks, InvalidPlace, InvalidScene
from roadwaves.marks import marked_counts
from roadwaves.pictures import counts_at
from roadwaves.scenes import all_cars, start_number
from roadwaves.ways import number_at
from tests.scene_support import EMPTY, FOUR, HALF, LIGHT, ONE, RED, ROAD, STREET, THREE, TWO, ZERO, some_scenes
from tests.support import BELOW_ZERO, WRONG, check_refused, check_refused_at, nested, number, pair, random_source

FIRST, LAST = (-2, 1), THREE


def random_marks(source, scene):
    """Marks of a scene, with gaps and without."""
    first, last = number(start_number(scene, scene[1])), number(all_cars(scene))
    if first == last:
        return ()
    ends = sorted(first + (last - first) * Fraction(at, 24) for at in source.sample(range(25), source.randint(2, 8)))
    marks = [(one, other) for one, other in zip(ends, ends[1:]) if source.random() < 0.6]
    return tuple((pair(one), pair(other)) for one, other in marks)


def marked_up_to(marks, told):
    """How many are marked below a number."""
    return sum((max(min(number(last), told) - number(first), Fraction(0)) for first, last in marks), Fraction(0))


class MarkedCounts(unittest.TestCase):
    def test_by_hand(self):
        self.assertEqual(((ZERO, ZERO), ((7, 2), ZERO), ((9, 2), ONE)), marked_counts(STREET, ((ZERO, ONE),), TWO))
        # The number at the place 2 goes with 1 / 2 from - 1 to - 1 / 2, stays from 1 to 3, goes with 1 until 5.
        self.assertEqual(((ZERO, ZERO), (HALF, ZERO), (ONE, (1, 4)), (THREE, (1, 4)), ((13, 4), HALF)),
                         marked_counts(STREET, (((-3, 4), (-1, 4)),), TWO))
        # Who is past the place at the moment 0 has gone by then: half of those from - 3 / 2 to - 1 / 2.
        self.assertEqual(((ZERO, HALF), (ONE, ONE)), marked_counts(STREET, (((-3, 2), (-1, 2)),), TWO))

    def test_ends_of_the_road(self):
        marks = ((FIRST, (-1, 1)), (HALF, TWO))
        self.assertEqual(((ZERO, ONE), (ONE, ONE), (FOUR, (5, 2))), marked_counts(STREET, marks, ZERO))
        found = marked_counts(STREET, marks, FOUR)
        self.assertEqual((ZERO, ZERO), found[0])
        self.assertEqual((5, 2), found[-1][1])
        self.assertEqual(when(counts_at(STREET, FOUR), TWO), found[-1][0])

    def test_no_marks_and_all_marked(self):
        for scene in some_scenes(61, 12):
            first, last = start_number(scene, scene[1]), all_cars(scene)
            for place in (ZERO, pair(number(scene[1]) / 3), scene[1]):
                self.assertEqual(((ZERO, ZERO),), marked_counts(scene, (), place))
                if first != last:
                    gone = counts_at(scene, place)
                    expected = tuple((moment, pair(number(told) - number(first))) for moment, told in gone)
                    self.assertEqual(expected, marked_counts(scene, ((first, last),), place))
                    middle = pair((number(first) + number(last)) / 2)
                    self.assertEqual(expected, marked_counts(scene, ((first, middle), (middle, last)), place))

    def test_as_many_as_are_marked_below_the_number(self):
        source = random_source(62)
        for scene in some_scenes(63, 40):
            length = number(scene[1])
            for place in (ZERO, pair(length * Fraction(source.randint(1, 11), 12)), scene[1]):
                marks = random_marks(source, scene)
                found = marked_counts(scene, marks, place)
                self.assertTrue(is_counts(found))
                moments = [number(moment) for moment, _ in found]
                tested = set(moments) | {(one + other) / 2 for one, other in zip(moments, moments[1:])}
                tested |= {number(moment) for moment, _ in counts_at(scene, place)} | {moments[-1] + 2}
                for moment in tested:
                    told = number(number_at(scene, place, pair(moment)))
                    self.assertEqual(marked_up_to(marks, told), number(number_of(found, pair(moment))))

    def test_numbers_of_any_size(self):
        crowd = (ROAD, TWO, EMPTY, ((10 ** 380, 1), ()), ())
        marks = ((ZERO, (1, 10 ** 390)), (ONE, (10 ** 380, 1)))
        expected = ((ZERO, ZERO), ((1, 10 ** 390), (1, 10 ** 390)), (ONE, (1, 10 ** 390)),
                    ((10 ** 380, 1), pair(Fraction(1, 10 ** 390) + 10 ** 380 - 1)))
        self.assertEqual(expected, marked_counts(crowd, marks, ZERO))


class WrongMarks(unittest.TestCase):
    def test_indexes(self):
        good = (ZERO, ONE)
        for marks, index in ((None, None), ([], None), ([good], None), ("", None), (7, None), ({}, None),
                             ((good, good), 1), ((good, (HALF, TWO)), 1), ((good, (ONE, TWO), (TWO, TWO)), 2),
                             ((good[::-1],), 0), ((good, list(good)), 1), ((good + good,), 0), ((ZERO,), 0),
                             ((((-5, 2), ONE),), 0), (((FIRST, LAST), (LAST, FOUR)), 1), ((good, (ONE, (31, 10))), 1),
                             (((FIRST, (-1, 1)), (ZERO, 1)), 1), ((good, (TWO, THREE), (ONE, TWO)), 2),
                             ((((0, True), ONE),), 0), ((((0, 2), ONE),), 0), ((good, None), 1), (((ONE, ONE),), 0)):
            with self.subTest(marks=marks):
                check_refused_at(self, InvalidMarks, index, marked_counts, STREET, marks, TWO)
                check_refused_at(self, InvalidMarks, index, marked_counts, place=None, marks=marks, scene=STREET)
        for value in WRONG + [nested(14)]:
            if value == ():
                continue
            expected = 0 if isinstance(value, tuple) else None
            check_refused_at(self, InvalidMarks, expected, marked_counts, STREET, value, TWO)
            check_refused_at(self, InvalidMarks, 0, marked_counts, STREET, (value,), TWO)
            check_refused_at(self, InvalidMarks, 1, marked_counts, STREET, (good, (value, TWO)), TWO)
            if value != TWO:
                check_refused_at(self, InvalidMarks, 1, marked_counts, STREET, (good, (ONE, value)), TWO)

    def test_what_is_let(self):
        for marks in ((), ((FIRST, LAST),), ((ZERO, ONE), (ONE, TWO)), tuple((pair(Fraction(at, 100)), pair(Fraction(at + 1, 100)))
                                                                            for at in range(300))):
            self.assertTrue(is_counts(marked_counts(scene=STREET, marks=marks, place=TWO)))
        # Without a car there is one number alone, and no mark.
        empty = (ROAD, TWO, EMPTY, (ZERO, ()), (RED,))
        check_refused_at(self, InvalidMarks, 0, marked_counts, empty, ((ZERO, ZERO),), TWO)

    def test_order_and_other_arguments(self):
        for value in WRONG + BELOW_ZERO + [(9, 2)]:
            check_refused(self, InvalidPlace, value, marked_counts, STREET, ((ZERO, ONE),), value)
            check_refused(self, InvalidPlace, value, marked_counts, marks=(), place=value, scene=LIGHT)
            check_refused(self, InvalidScene, value, marked_counts, value, None, None)
            check_refused_at(self, InvalidMarks, None, marked_counts, STREET, [], value)


if __name__ == "__main__":
    unittest.main()
