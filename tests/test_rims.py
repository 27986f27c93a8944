"""Rims: what they are, when they can be, and what they settle of all between them."""

import unittest
from fractions import Fraction

from roadwaves.cars import last_out
from roadwaves.errors import InvalidMoment, InvalidPlace, InvalidRims, InvalidScene, NoneFits, TooMany
from roadwaves.pictures import counts_at
from roadwaves.rims import barring_pair, can_be, inner_number, inner_start, is_rims, rims_of
from roadwaves.ways import number_at
from tests.rim_support import (EARLY, INFLOW, LATE, SHUT, THROUGH, are_barred, corners_of, cut_counts, is_barred,
                               is_on_rims, line_of, number_on_rims, random_rims, random_rims_point, settled_number)
from tests.scene_support import (COMING, EMPTY, FIVE, FOUR, HALF, LEVEL, LIGHT, ONE, ROAD, SIX, STREET, THREE, TWO, ZERO,
                                 on_line, random_scene, some_scenes, toll_of)
from tests.support import (BELOW_ZERO, WRONG, check_refused, nested, number, pair, raised_by, random_fraction,
                           random_source)


def own(point):
    """A point as Python's own fractions."""
    return (number(point[0]), number(point[1]))


def inner_points(source, rims, many):
    """So many places and moments between the rims and on them."""
    length, last = number(rims[1]), number(rims[5])
    found = [random_rims_point(source, rims) for _ in range(many // 2)]
    for _ in range(many - len(found)):
        found.append((pair(length * Fraction(source.randint(0, 12), 12)), pair(last * Fraction(source.randint(0, 12), 12))))
    return found


def bent(source, rims):
    """Rims with one corner of a count moved a little, if it may be."""
    at = source.choice([3, 4])
    counts = list(rims[at])
    if len(counts) < 2:
        return None
    which = source.randint(1, len(counts) - 1)
    moment, told = counts[which]
    moved = number(told) + source.choice([Fraction(1, 50), Fraction(-1, 50)])
    counts[which] = (moment, pair(moved))
    changed = rims[:at] + (tuple(counts),) + rims[at + 1:]
    return changed if is_rims(changed) else None


class IsRims(unittest.TestCase):
    def test_by_hand(self):
        for rims in (THROUGH, SHUT, EARLY, (ROAD, TWO, ((ONE, THREE), (ONE, ZERO)), INFLOW, ((ZERO, (-3, 1)),), SIX)):
            self.assertIs(True, is_rims(rims))
            self.assertIs(True, is_rims(value=rims))

    def test_each_part_wrong(self):
        for at, values in enumerate((
                (ROAD[:2], list(ROAD), None), (ZERO, (-1, 1), ONE, FIVE, None, [2, 1]),
                ((), None, [(TWO, ZERO)], ((TWO, FOUR),), ((ONE, ZERO),), ((TWO, ONE),), ((TWO, ZERO), (ONE, ZERO))),
                (((ZERO, ONE), (FOUR, TWO)), ((ONE, ZERO), (FOUR, TWO)), ((ZERO, ZERO), (FIVE, TWO)), (), None,
                 ((ZERO, ZERO), (TWO, ONE), (FOUR, TWO)), ((ZERO, (-1, 1)), (FOUR, TWO)), list(INFLOW)),
                (((ZERO, ONE),), ((ZERO, (-1, 1)),), ((ZERO, ZERO), (FIVE, ONE)), ((ZERO, ZERO), (TWO, ZERO)), 7,
                 ((ZERO, ZERO), (TWO, ONE), (THREE, HALF)), list(LATE)),
                (ZERO, THREE, (-4, 1), None, 4, (399, 100)))):
            for value in values:
                with self.subTest(at=at, value=value):
                    self.assertIs(False, is_rims(THROUGH[:at] + (value,) + THROUGH[at + 1:]))
        for value in WRONG + [nested(14), THROUGH[:5], THROUGH + (ONE,), list(THROUGH), (THROUGH,)]:
            self.assertIs(False, is_rims(value))

    def test_no_time_at_all(self):
        short = THROUGH[:3] + (((ZERO, ZERO),), ((ZERO, ZERO),))
        self.assertEqual([True, False, False], [is_rims(short + (last,)) for last in ((1, 10 ** 30), ZERO, (-1, 1))])

    def test_forty_and_forty_one(self):
        for at in (3, 4):
            for many, expected in ((39, True), (40, True), (41, False)):
                # The rates take turns, so that no corner is needless.
                line, told = [(ZERO, ZERO)], Fraction(0)
                for which in range(1, many):
                    told += Fraction(1 + which % 2, 200)
                    line.append((pair(Fraction(which, 20)), pair(told)))
                rims = THROUGH[:at] + (tuple(line),) + THROUGH[at + 1:]
                self.assertIs(expected, is_rims(rims))
        for many, expected in ((40, True), (41, False)):
            beginning = tuple((pair(Fraction(2, many)), ZERO) for _ in range(many))
            self.assertIs(expected, is_rims(THROUGH[:2] + (beginning,) + THROUGH[3:]))

    def test_corners_at_last_and_beyond(self):
        for last, expected in ((FOUR, True), (FIVE, True), ((39, 10), False)):
            self.assertIs(expected, is_rims(THROUGH[:5] + (last,)))


class CanBe(unittest.TestCase):
    def check(self, rims):
        """Whether rims can be, held against a search of the tests' own."""
        expected = not are_barred(rims)
        self.assertIs(expected, can_be(rims))
        found = barring_pair(rims)
        if expected:
            self.assertIsNone(found)
        else:
            self.assertIsInstance(found, tuple)
            point, following = found
            self.assertTrue(is_on_rims(rims, own(point)) and is_on_rims(rims, own(following)))
            self.assertTrue(is_barred(rims, own(point), own(following)))
        return expected

    def test_by_hand(self):
        self.assertEqual([True, True, False], [self.check(rims) for rims in (THROUGH, SHUT, EARLY)])
        # At most one for each unit of time comes in, and a jam of three lets nobody in at once.
        for counts, expected in ((((ZERO, ZERO), (FOUR, FOUR)), True), (((ZERO, ZERO), (FOUR, (401, 100))), False)):
            self.assertIs(expected, self.check((ROAD, TWO, EMPTY, counts, ((ZERO, ZERO),), FOUR)))
        jam = (ROAD, TWO, ((TWO, THREE),))
        for first, expected in ((FOUR, True), ((399, 100), False)):
            # A place gets free at the end at the moment 0, and this goes back with 1 / 2.
            coming_in = ((ZERO, ZERO), (first, ZERO), (FIVE, pair(5 - number(first))))
            out = ((ZERO, (-6, 1)), (FIVE, (-1, 1)))
            self.assertIs(expected, self.check(jam + (coming_in, out, FIVE)))

    def test_just_and_just_not(self):
        for last, told, expected in ((FOUR, TWO, True), (FOUR, (200001, 100000), False), (THREE, ONE, True)):
            # Who comes in with the flow 1 from the moment 0 on goes out from 2 on.
            rims = (ROAD, TWO, EMPTY, ((ZERO, ZERO), (last, last)), ((ZERO, ZERO), (TWO, ZERO), (last, told)), last)
            self.assertIs(expected, self.check(rims))

    def test_only_between_a_corner_and_a_point_a_step_away(self):
        # No two corners bar these, but the corner (0, 1) and the point at the end of the road two later do.
        out = ((ZERO, ZERO), (TWO, ZERO), (FIVE, (3, 2)))
        rims = (ROAD, TWO, EMPTY, ((ZERO, ZERO), (ONE, ZERO), (FOUR, THREE)), out, FIVE)
        corners = corners_of(rims)
        self.assertFalse(any(is_barred(rims, one, other) for one in corners for other in corners))
        self.assertIs(False, self.check(rims))

    def test_random_ones(self):
        source = random_source(71)
        found = [self.check(random_rims(source)) for _ in range(250)]
        self.assertGreater(found.count(True), 20)
        self.assertGreater(found.count(False), 100)

    def test_rims_of_traffic_can_be(self):
        source = random_source(72)
        for scene in some_scenes(73, 30):
            last = source.choice([last_out(scene), ONE, pair(random_fraction(source, 1, 6))])
            if last == ZERO:
                continue
            rims = rims_of(scene, last)
            self.assertIs(True, self.check(rims))
            for _ in range(3):
                changed = bent(source, rims)
                if changed is not None:
                    self.check(changed)

    def test_all_pairs_of_points_if_they_can_be(self):
        source = random_source(74)
        for scene in some_scenes(75, 10):
            rims = rims_of(scene, SIX)
            points = [own(random_rims_point(source, rims)) for _ in range(30)]
            self.assertFalse(any(is_barred(rims, one, other) for one in points for other in points))

    def test_wrong_rims(self):
        for call in (can_be, barring_pair):
            for value in WRONG + [THROUGH[:5], list(THROUGH), THROUGH[:5] + (THREE,)]:
                check_refused(self, InvalidRims, value, call, value)
                check_refused(self, InvalidRims, value, call, rims=value)


class Inner(unittest.TestCase):
    def check(self, rims, point):
        """The number at a place and moment, held against a search of the tests' own."""
        found = inner_number(rims, *point)
        self.assertEqual(settled_number(rims, own(point)), number(found))
        start = inner_start(rims, *point)
        self.assertTrue(is_on_rims(rims, own(start)))
        (place, moment), (origin, since) = own(point), own(start)
        toll = toll_of(rims[0], place - origin, moment - since)
        self.assertEqual(number_on_rims(rims, own(start)) + toll, number(found))
        return found

    def test_by_hand(self):
        for rims, point, expected in ((THROUGH, (ONE, TWO), HALF), (SHUT, (ONE, TWO), HALF), (SHUT, (TWO, FOUR), ZERO),
                                      (THROUGH, (TWO, FOUR), ONE), (rims_of(LIGHT, FOUR), (ONE, THREE), ONE)):
            self.assertEqual(expected, self.check(rims, point))
        self.assertEqual((ZERO, ONE), inner_start(THROUGH, ONE, TWO))

    def test_from_a_corner_alone(self):
        # Where cars spread out, those of a density of a corner of the kind all come from one point.
        level = ((ZERO, ZERO), (FOUR, (12, 1)))
        rims = (LEVEL, FOUR, ((FOUR, ZERO),), level, ((ZERO, ZERO),), FOUR)
        self.assertEqual((ONE, (ZERO, ZERO)), (self.check(rims, (THREE, TWO)), inner_start(rims, THREE, TWO)))
        spread = (LEVEL, (8, 1), ((TWO, THREE), (SIX, ZERO)), ((ZERO, ZERO),), ((ZERO, (-6, 1)),), FOUR)
        self.assertEqual(((-5, 1), (TWO, ZERO)), (self.check(spread, (FIVE, TWO)), inner_start(spread, FIVE, TWO)))

    def test_on_the_rims(self):
        source = random_source(76)
        for scene in some_scenes(77, 15):
            rims = rims_of(scene, FIVE)
            for point in [random_rims_point(source, rims) for _ in range(6)]:
                self.assertEqual(number_on_rims(rims, own(point)), number(self.check(rims, point)))

    def test_numbers_of_scenes_without_bars(self):
        source = random_source(78)
        for _ in range(25):
            scene = random_scene(source, 0)
            rims = rims_of(scene, SIX)
            for point in inner_points(source, rims, 8):
                self.assertEqual(number_at(scene, *point), self.check(rims, point))

    def test_with_bars_it_is_this_number_or_less(self):
        source = random_source(79)
        less = 0
        for scene in some_scenes(80, 15):
            rims = rims_of(scene, FIVE)
            for point in inner_points(source, rims, 8):
                told, settled = number(number_at(scene, *point)), number(self.check(rims, point))
                self.assertLessEqual(told, settled)
                less += told < settled
        self.assertGreater(less, 10)

    def test_any_rims_that_can_be(self):
        source = random_source(81)
        many = 0
        while many < 25:
            rims = random_rims(source)
            if can_be(rims):
                many += 1
                for point in inner_points(source, rims, 6):
                    self.check(rims, point)
                    # No point of the rims leads there with less.
                    for _ in range(6):
                        origin = own(random_rims_point(source, rims))
                        toll = toll_of(rims[0], number(point[0]) - origin[0], number(point[1]) - origin[1])
                        if toll is not None:
                            self.assertLessEqual(number(inner_number(rims, *point)), number_on_rims(rims, origin) + toll)

    def test_none_fits_last(self):
        for call in (inner_number, inner_start):
            self.assertIs(NoneFits, raised_by(call, EARLY, ONE, TWO).__class__)
            self.assertIs(NoneFits, raised_by(call, moment=FOUR, place=ZERO, rims=EARLY).__class__)
            for value in WRONG + BELOW_ZERO + [(5, 2)]:
                check_refused(self, InvalidPlace, value, call, EARLY, value, None)
                check_refused(self, InvalidPlace, value, call, THROUGH, value, TWO)
            for value in WRONG + BELOW_ZERO + [FIVE, (401, 100)]:
                check_refused(self, InvalidMoment, value, call, EARLY, TWO, value)
                check_refused(self, InvalidMoment, value, call, THROUGH, TWO, value)
                check_refused(self, InvalidRims, value, call, value, None, None)


class RimsOf(unittest.TestCase):
    def test_by_hand(self):
        self.assertEqual(SHUT, rims_of(LIGHT, FOUR))
        self.assertEqual((INFLOW, ((ZERO, ZERO), (FOUR, ZERO), (FIVE, ONE)), FIVE), rims_of(LIGHT, FIVE)[3:])
        self.assertEqual(((ZERO, ZERO), (THREE, (3, 2))), rims_of(LIGHT, THREE)[3])
        self.assertEqual(((ZERO, (-2, 1)), (THREE, (-1, 2))), rims_of(last=FIVE, scene=STREET)[4])
        self.assertEqual(((ZERO, (-2, 1)), (TWO, (-1, 1))), rims_of(STREET, TWO)[4])

    def test_parts(self):
        source = random_source(82)
        for scene in some_scenes(83, 30):
            for last in {ONE, pair(random_fraction(source, 1, 8)), last_out(scene)} - {ZERO}:
                rims = rims_of(scene, last)
                self.assertIs(True, is_rims(rims))
                self.assertEqual(scene[:3], rims[:3])
                self.assertEqual(last, rims[5])
                for counts, place in ((rims[3], ZERO), (rims[4], scene[1])):
                    self.assertEqual(cut_counts(line_of(counts_at(scene, place)), number(last)), counts)
                    for part in range(7):
                        moment = number(last) * Fraction(part, 6)
                        self.assertEqual(number_at(scene, place, pair(moment)), pair(on_line(line_of(counts), moment)))

    def test_too_many(self):
        # Forty pieces that take turns, none of which is held up: a corner at each of their ends, at 0 and at the end.
        pieces = tuple((HALF, pair(Fraction(1 + at % 2, 4))) for at in range(40))
        scene = (ROAD, TWO, ((ONE, ZERO), (ONE, (1, 4))), (ZERO, pieces), ())
        for last, many in (((25, 1), 43), ((20, 1), 41), ((39, 2), 40), ((77, 4), 40), ((19, 1), 39)):
            found = raised_by(rims_of, scene, last)
            if many > 40:
                self.assertIs(TooMany, found.__class__)
                self.assertEqual(many, found.given)
            else:
                self.assertIsNone(found)
                self.assertEqual(many, max(len(rims_of(scene, last)[3]), len(rims_of(scene, last)[4])))

    def test_wrong_arguments(self):
        for value in WRONG + BELOW_ZERO + [ZERO]:
            check_refused(self, InvalidMoment, value, rims_of, LIGHT, value)
            check_refused(self, InvalidMoment, value, rims_of, last=value, scene=LIGHT)
            check_refused(self, InvalidScene, value, rims_of, value, value)

    def test_numbers_of_any_size(self):
        for unit in (Fraction(10) ** 390, Fraction(1, 3 ** 600)):
            kind = tuple((pair(number(density) / unit), pair(number(flow) / unit)) for density, flow in ROAD)
            up, last = pair(2 * unit), pair(6 * unit)
            rims = rims_of((kind, up, ((up, ZERO),), (COMING[0], ((up, pair(1 / unit)),)), ()), last)
            self.assertIs(True, can_be(rims))
            self.assertEqual(ONE, inner_number(rims, pair(unit), up))
            self.assertEqual(TWO, inner_number(rims, up, last))


if __name__ == "__main__":
    unittest.main()
