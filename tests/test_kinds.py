"""Kinds of road, each by itself: what a kind is, flows, speeds, densities, steps and tolls, turning round."""

import unittest
from fractions import Fraction
from inspect import signature

from roadwaves import kinds
from roadwaves.errors import (InvalidContent, InvalidDensity, InvalidFlow, InvalidFraction, InvalidKind,
                              InvalidSpeed, NoStep)
from roadwaves.kinds import (densities_with, flow_at, is_kind, speeds_of, toll, toll_rate, top_flow, turned_kind)
from tests.support import (BELOW_ZERO, WRONG, check_order, check_refused, check_wrong_values, flow_of, nested,
                           number, pair, raised_by, random_fraction, random_kind, random_source)

ZERO = (0, 1)
ONE, TWO, THREE, FOUR = (1, 1), (2, 1), (3, 1), (4, 1)
HALF = (1, 2)
TINY = Fraction(1, 10 ** 300)

ROAD = ((ZERO, ZERO), (ONE, ONE), (THREE, ZERO))
# A level top from 2 to 3, and a bend on either side.
LEVEL = ((ZERO, ZERO), (ONE, TWO), (TWO, THREE), (THREE, THREE), (FOUR, TWO), ((9, 2), ZERO))
# All speeds but the free one are below 0.
STEEP = ((ZERO, ZERO), (HALF, (5, 2)), (TWO, TWO), ((7, 2), ZERO))
# All speeds but the back one are above 0.
LATE = ((ZERO, ZERO), (ONE, THREE), (TWO, (9, 2)), ((5, 2), (19, 4)), ((8, 3), ZERO))


def kind_with_corners(corners, shift=0):
    """A kind with so many corners; its speeds are whole numbers from 9 - shift on downwards, all but the last one."""
    density, flow, found = Fraction(0), Fraction(0), [(ZERO, ZERO)]
    for at in range(corners - 2):
        width = Fraction(1) if at < 8 else Fraction(1, 7)
        density, flow = density + width, flow + width * (9 - shift - at)
        found.append((pair(density), pair(flow)))
    last = pair(density + flow / 50)
    return tuple(found) + ((last, ZERO),)


def random_kinds(seed, many):
    source = random_source(seed)
    return [random_kind(source, source.randint(2, 11)) for _ in range(many)]


SOME = [ROAD, LEVEL, STEEP, LATE, kind_with_corners(12)] + random_kinds(7, 12)


def speeds_in(kind):
    return [(number(b[1]) - number(a[1])) / (number(b[0]) - number(a[0])) for a, b in zip(kind, kind[1:])]


class Interface(unittest.TestCase):
    PARAMETERS = {
        "is_kind": ["value"], "flow_at": ["kind", "density"], "speeds_of": ["kind"], "top_flow": ["kind"],
        "densities_with": ["kind", "flow"], "toll": ["kind", "distance", "duration"], "toll_rate": ["kind", "speed"],
        "lanes": ["kind", "other"], "lesser_kind": ["kind", "other"], "turned_kind": ["kind"],
    }

    def test_names_of_functions_and_parameters(self):
        for name, parameters in self.PARAMETERS.items():
            with self.subTest(name=name):
                function = getattr(kinds, name)
                self.assertEqual("roadwaves.kinds", function.__module__)
                self.assertEqual(parameters, list(signature(function).parameters))

    def test_arguments_by_name(self):
        self.assertIs(True, is_kind(value=ROAD))
        self.assertEqual(HALF, flow_at(density=TWO, kind=ROAD))
        self.assertEqual((ONE, (-1, 2)), speeds_of(kind=ROAD))
        self.assertEqual(ONE, top_flow(kind=ROAD))
        self.assertEqual((HALF, TWO), densities_with(flow=HALF, kind=ROAD))
        self.assertEqual(THREE, toll(duration=TWO, distance=(-1, 1), kind=ROAD))
        self.assertEqual(HALF, toll_rate(speed=HALF, kind=ROAD))
        self.assertEqual((ZERO, TWO, THREE), tuple(corner[0] for corner in turned_kind(kind=ROAD)))

    def test_equal_calls_have_equal_results(self):
        for kind in SOME:
            for _ in range(2):
                self.assertEqual(turned_kind(kind), turned_kind(tuple(list(kind))))
                self.assertEqual(toll(kind, ZERO, TWO), toll(kind, ZERO, TWO))
                self.assertEqual(densities_with(kind, ZERO), densities_with(kind, ZERO))


class IsKind(unittest.TestCase):
    def test_kinds(self):
        for kind in SOME:
            self.assertIs(True, is_kind(kind))

    def test_no_kind_at_all(self):
        for which, value in enumerate(WRONG + [nested(14)] + BELOW_ZERO + [ZERO, ONE, HALF]):
            with self.subTest(which=which):
                self.assertIs(False, is_kind(value))

    def test_number_of_corners(self):
        for corners in range(3, 13):
            with self.subTest(corners=corners):
                self.assertIs(True, is_kind(kind_with_corners(corners)))
        for corners in (13, 14, 20):
            with self.subTest(corners=corners):
                self.assertIs(False, is_kind(kind_with_corners(corners)))
        for few in ((), ROAD[:1], ROAD[:2], ROAD[1:], (ROAD[0], ROAD[2])):
            self.assertIs(False, is_kind(few))

    def test_lists_in_the_place_of_tuples(self):
        self.assertIs(False, is_kind(list(ROAD)))
        self.assertIs(False, is_kind(list(map(list, ROAD))))
        for at in range(3):
            changed = list(ROAD)
            changed[at] = list(ROAD[at])
            self.assertIs(False, is_kind(tuple(changed)))
            for part in range(2):
                corner = list(ROAD[at])
                corner[part] = list(corner[part])
                changed[at] = tuple(corner)
                self.assertIs(False, is_kind(tuple(changed)))

    def test_each_part_has_to_be_a_fraction(self):
        for at in range(len(LEVEL)):
            for part in range(2):
                for which, value in enumerate(WRONG):
                    corner = list(LEVEL[at])
                    corner[part] = value
                    with self.subTest(at=at, part=part, which=which):
                        self.assertIs(False, is_kind(LEVEL[:at] + (tuple(corner),) + LEVEL[at + 1:]))

    def test_each_corner_has_to_be_a_pair(self):
        for at in range(len(LEVEL)):
            for value in WRONG + [LEVEL[at] + (ZERO,), LEVEL[at][:1], LEVEL[at] + LEVEL[at], LEVEL]:
                self.assertIs(False, is_kind(LEVEL[:at] + (value,) + LEVEL[at + 1:]))

    def test_fractions_that_are_not_reduced(self):
        self.assertIs(True, is_kind(((ZERO, ZERO), (HALF, HALF), (TWO, ZERO))))
        for wrong in ((2, 4), (-1, -2), (1, -2), (3, 6)):
            self.assertIs(False, is_kind(((ZERO, ZERO), (wrong, HALF), (TWO, ZERO))))
            self.assertIs(False, is_kind(((ZERO, ZERO), (HALF, wrong), (TWO, ZERO))))
        self.assertIs(False, is_kind((((0, 2), ZERO), (ONE, ONE), (THREE, ZERO))))
        self.assertIs(False, is_kind(((ZERO, (0, 2)), (ONE, ONE), (THREE, ZERO))))
        self.assertIs(False, is_kind(((ZERO, ZERO), (ONE, ONE), (THREE, (0, 3)))))
        self.assertIs(False, is_kind(((ZERO, ZERO), (ONE, ONE), ((6, 2), ZERO))))

    def test_true_and_false_are_no_numbers(self):
        self.assertIs(False, is_kind(((ZERO, ZERO), ((True, 1), ONE), (THREE, ZERO))))
        self.assertIs(False, is_kind(((ZERO, ZERO), (ONE, (1, True)), (THREE, ZERO))))
        self.assertIs(False, is_kind((((False, 1), ZERO), (ONE, ONE), (THREE, ZERO))))
        self.assertIs(False, is_kind(((ZERO, ZERO), (ONE, ONE), (THREE, (False, 1)))))

    def test_first_corner_is_the_origin(self):
        self.assertIs(False, is_kind(((HALF, ZERO), (ONE, ONE), (THREE, ZERO))))
        self.assertIs(False, is_kind(((ZERO, HALF), (ONE, ONE), (THREE, ZERO))))
        self.assertIs(False, is_kind(((ZERO, (-1, 1)), (ONE, ONE), (THREE, ZERO))))
        self.assertIs(False, is_kind((((-1, 1), ZERO), (ONE, ONE), (THREE, ZERO))))
        self.assertIs(False, is_kind((((-1, 1), (-2, 1)), (ZERO, ZERO), (ONE, ONE), (THREE, ZERO))))

    def test_last_flow_is_0(self):
        self.assertIs(False, is_kind(((ZERO, ZERO), (ONE, ONE), (THREE, HALF))))
        self.assertIs(False, is_kind(((ZERO, ZERO), (ONE, ONE), (THREE, (-1, 2)))))
        self.assertIs(False, is_kind(((ZERO, ZERO), (ONE, ONE), (THREE, pair(TINY)))))
        self.assertIs(False, is_kind(((ZERO, ZERO), (ONE, ONE), (THREE, pair(-TINY)))))

    def test_densities_ascend(self):
        self.assertIs(False, is_kind(((ZERO, ZERO), (ONE, ONE), (ONE, ZERO))))
        self.assertIs(False, is_kind(((ZERO, ZERO), (ONE, ONE), (HALF, ZERO))))
        self.assertIs(False, is_kind(((ZERO, ZERO), (ZERO, ONE), (ONE, ZERO))))
        self.assertIs(False, is_kind(((ZERO, ZERO), ((-1, 1), ONE), (ONE, ZERO))))
        self.assertIs(False, is_kind(((ZERO, ZERO), (ONE, ONE), (ONE, ONE), (THREE, ZERO))))
        self.assertIs(False, is_kind(((ZERO, ZERO), (TWO, ONE), (ONE, TWO), (THREE, ZERO))))
        # Densities are compared as numbers: 1 / 3 is below 1 / 2, and 10 above 9.
        self.assertIs(True, is_kind(((ZERO, ZERO), ((1, 3), ONE), (HALF, ZERO))))
        self.assertIs(True, is_kind(((ZERO, ZERO), ((9, 1), ONE), ((10, 1), ZERO))))
        self.assertIs(False, is_kind(((ZERO, ZERO), (HALF, ONE), ((1, 3), ZERO))))

    def test_flows_between_are_above_0(self):
        self.assertIs(False, is_kind(((ZERO, ZERO), (ONE, ZERO), (THREE, ZERO))))
        self.assertIs(False, is_kind(((ZERO, ZERO), (ONE, (-1, 1)), (THREE, ZERO))))
        self.assertIs(False, is_kind(((ZERO, ZERO), (ONE, ONE), (TWO, ZERO), (THREE, ZERO))))
        self.assertIs(False, is_kind(((ZERO, ZERO), (ONE, ONE), (TWO, (-1, 1)), (THREE, ZERO))))
        self.assertIs(True, is_kind(((ZERO, ZERO), (ONE, pair(TINY)), (THREE, ZERO))))

    def test_slopes_get_less(self):
        # Two pieces of one slope, at each place of the line.
        self.assertIs(False, is_kind(((ZERO, ZERO), (HALF, HALF), (ONE, ONE), (THREE, ZERO))))
        self.assertIs(False, is_kind(((ZERO, ZERO), (ONE, ONE), (TWO, HALF), (THREE, ZERO))))
        self.assertIs(False, is_kind(((ZERO, ZERO), (ONE, ONE), (TWO, ONE), (THREE, ONE), (FOUR, ZERO))))
        # A slope that is greater than the one before it, at each place of the line.
        self.assertIs(False, is_kind(((ZERO, ZERO), (ONE, HALF), (TWO, TWO), (THREE, ZERO))))
        self.assertIs(False, is_kind(((ZERO, ZERO), (ONE, TWO), (TWO, HALF), (THREE, ZERO))))
        self.assertIs(False, is_kind(((ZERO, ZERO), (TWO, FOUR), (THREE, TWO), (FOUR, HALF), ((5, 1), ZERO))))
        self.assertIs(True, is_kind(((ZERO, ZERO), (TWO, FOUR), (THREE, THREE), (FOUR, HALF), ((41, 10), ZERO))))
        # Slopes that differ by next to nothing.
        for gap, right in ((TINY, True), (Fraction(0), False), (-TINY, False)):
            self.assertIs(right, is_kind(((ZERO, ZERO), (ONE, pair(1 + gap)), (TWO, TWO), (THREE, ZERO))))


class Flows(unittest.TestCase):
    def test_at_corners(self):
        for kind in SOME:
            for density, flow in kind:
                self.assertEqual(flow, flow_at(kind, density))

    def test_empty_and_full(self):
        for kind in SOME:
            self.assertEqual(ZERO, flow_at(kind, ZERO))
            self.assertEqual(ZERO, flow_at(kind, kind[-1][0]))

    def test_between_corners(self):
        for kind in SOME:
            full = number(kind[-1][0])
            for part in range(1, 30):
                density = full * part / 30
                self.assertEqual(pair(flow_of(kind, density)), flow_at(kind, pair(density)))

    def test_by_hand(self):
        found = [flow_at(LEVEL, density) for density in (HALF, (3, 2), (5, 2), (7, 2), (17, 4), (35, 8))]
        self.assertEqual([ONE, (5, 2), THREE, (5, 2), ONE, HALF], found)

    def test_just_within_and_just_beyond(self):
        self.assertEqual(pair(TINY / 2), flow_at(ROAD, pair(3 - TINY)))
        self.assertEqual(pair(TINY), flow_at(ROAD, pair(TINY)))
        for density in (pair(3 + TINY), (4, 1), (10 ** 390, 1), *BELOW_ZERO):
            check_refused(self, InvalidDensity, density, flow_at, ROAD, density)

    def test_wrong_values(self):
        check_wrong_values(self, flow_at, (ROAD, ONE), 0, InvalidKind, WRONG + [ROAD[:2], list(ROAD)])
        check_wrong_values(self, flow_at, (ROAD, ONE), 1, InvalidDensity, WRONG + BELOW_ZERO + [pair(3 + TINY)])
        check_order(self, flow_at, (ROAD, ONE), (InvalidKind, InvalidDensity))

    def test_a_density_of_another_kind(self):
        check_refused(self, InvalidDensity, FOUR, flow_at, ROAD, FOUR)
        self.assertEqual(TWO, flow_at(LEVEL, FOUR))


class SpeedsAndTop(unittest.TestCase):
    def test_speeds(self):
        for kind in SOME:
            self.assertEqual(tuple(map(pair, speeds_in(kind))), speeds_of(kind))

    def test_speeds_by_hand(self):
        self.assertEqual(((2, 1), (1, 1), (0, 1), (-1, 1), (-4, 1)), speeds_of(LEVEL))
        self.assertEqual(((5, 1), (-1, 3), (-4, 3)), speeds_of(STEEP))
        self.assertEqual(tuple, speeds_of(STEEP).__class__)

    def test_top(self):
        self.assertEqual([ONE, THREE, (5, 2), (19, 4)], list(map(top_flow, (ROAD, LEVEL, STEEP, LATE))))
        for kind in SOME:
            self.assertEqual(pair(max(number(flow) for _, flow in kind)), top_flow(kind))

    def test_wrong_values(self):
        for call in (speeds_of, top_flow, turned_kind):
            check_wrong_values(self, call, (ROAD,), 0, InvalidKind, WRONG + [ROAD[:2], list(ROAD), LEVEL + ROAD])
            check_wrong_values(self, call, (ROAD,), 0, InvalidKind, [kind_with_corners(13), ROAD[::-1]])


class Densities(unittest.TestCase):
    def test_flow_0(self):
        for kind in SOME:
            self.assertEqual((ZERO, kind[-1][0]), densities_with(kind, ZERO))

    def test_top_flow(self):
        self.assertEqual((ONE, ONE), densities_with(ROAD, ONE))
        self.assertEqual((TWO, THREE), densities_with(LEVEL, THREE))
        self.assertEqual((HALF, HALF), densities_with(STEEP, (5, 2)))
        self.assertEqual(((5, 2), (5, 2)), densities_with(LATE, (19, 4)))

    def test_above_the_top(self):
        for kind in SOME:
            top = number(top_flow(kind))
            self.assertIsNone(densities_with(kind, pair(top + TINY)))
            self.assertIsNone(densities_with(kind, pair(top + 1)))
            self.assertIsNone(densities_with(kind, (10 ** 390, 1)))
            least, greatest = densities_with(kind, pair(top - TINY))
            self.assertLess(number(least), number(greatest))

    def test_by_hand(self):
        self.assertEqual(((1, 2), (17, 4)), densities_with(LEVEL, ONE))
        self.assertEqual((ONE, FOUR), densities_with(LEVEL, TWO))
        self.assertEqual(((3, 2), (7, 2)), densities_with(LEVEL, (5, 2)))
        self.assertEqual(((2, 5), TWO), densities_with(STEEP, TWO))

    def test_least_and_greatest_with_the_flow(self):
        for kind in SOME:
            full, top = number(kind[-1][0]), number(top_flow(kind))
            for part in range(1, 12):
                flow = top * part / 12
                least, greatest = densities_with(kind, pair(flow))
                self.assertEqual([pair(flow)] * 2, [flow_at(kind, least), flow_at(kind, greatest)])
                self.assertLess(number(least), number(greatest))
                self.assertLess(flow_of(kind, number(least) * 99 / 100), flow)
                self.assertLess(flow_of(kind, full - (full - number(greatest)) * 99 / 100), flow)

    def test_wrong_values(self):
        check_wrong_values(self, densities_with, (ROAD, HALF), 0, InvalidKind, WRONG + [ROAD[:2], list(ROAD)])
        check_wrong_values(self, densities_with, (ROAD, HALF), 1, InvalidFlow, WRONG + BELOW_ZERO)
        check_order(self, densities_with, (ROAD, HALF), (InvalidKind, InvalidFlow))


def toll_of(kind, distance, duration):
    return max(number(flow) * duration - number(density) * distance for density, flow in kind)


class Tolls(unittest.TestCase):
    def test_by_hand(self):
        self.assertEqual((2, 1), toll(ROAD, ZERO, TWO))
        self.assertEqual((3, 2), toll(ROAD, HALF, TWO))
        self.assertEqual((1, 1), toll(ROAD, ONE, TWO))
        self.assertEqual((5, 2), toll(ROAD, (-1, 2), TWO))
        self.assertEqual((10, 1), toll(LEVEL, (-2, 1), ONE))
        self.assertEqual((4, 1), toll(LEVEL, ONE, TWO))

    def test_greatest_over_all_corners(self):
        for kind in SOME:
            speeds = speeds_in(kind)
            for duration in (Fraction(1, 3), Fraction(1), Fraction(7, 2)):
                for part in range(17):
                    speed = speeds[-1] + (speeds[0] - speeds[-1]) * part / 16
                    distance = speed * duration
                    told = pair(toll_of(kind, distance, duration))
                    self.assertEqual(told, toll(kind, pair(distance), pair(duration)))
                    self.assertEqual(pair(toll_of(kind, speed, 1)), toll_rate(kind, pair(speed)))

    def test_greatest_over_all_densities(self):
        for kind in SOME:
            full, speeds = number(kind[-1][0]), speeds_in(kind)
            for speed in speeds + [(speeds[0] + speeds[-1]) / 2]:
                told = number(toll(kind, pair(2 * speed), TWO))
                for part in range(31):
                    density = full * part / 30
                    self.assertLessEqual(2 * flow_of(kind, density) - density * 2 * speed, told)

    def test_no_time(self):
        for kind in SOME:
            self.assertEqual(ZERO, toll(kind, ZERO, ZERO))
            for distance in (pair(TINY), pair(-TINY), ONE, (-1, 1)):
                self.assertIsInstance(raised_by(toll, kind, distance, ZERO), NoStep)

    def test_free_speed(self):
        for kind in SOME:
            free = speeds_in(kind)[0]
            for duration in (TINY, Fraction(1, 2), Fraction(3)):
                self.assertEqual(ZERO, toll(kind, pair(free * duration), pair(duration)))
                found = raised_by(toll, kind, pair(free * duration + TINY), pair(duration))
                self.assertIs(NoStep, found.__class__)
                self.assertNotEqual(ZERO, toll(kind, pair(free * duration - TINY / 10 ** 9), pair(duration)))
            self.assertEqual(ZERO, toll_rate(kind, pair(free)))

    def test_back_speed(self):
        for kind in SOME:
            full, back = number(kind[-1][0]), speeds_in(kind)[-1]
            for duration in (TINY, Fraction(1, 2), Fraction(3)):
                told = pair(-full * back * duration)
                self.assertEqual(told, toll(kind, pair(back * duration), pair(duration)))
                found = raised_by(toll, kind, pair(back * duration - TINY), pair(duration))
                self.assertIs(NoStep, found.__class__)
            self.assertEqual(pair(-full * back), toll_rate(kind, pair(back)))

    def test_toll_of_standing_is_the_top_flow(self):
        for kind in SOME:
            self.assertEqual(top_flow(kind), toll(kind, ZERO, ONE))
            self.assertEqual(top_flow(kind), toll_rate(kind, ZERO))

    def test_steps_one_behind_another(self):
        source = random_source(11)
        for kind in SOME:
            free, back = speeds_in(kind)[0], speeds_in(kind)[-1]
            for _ in range(10):
                steps = []
                for _ in range(2):
                    duration = random_fraction(source, 0, 3)
                    share = Fraction(source.randint(0, 8), 8)
                    steps.append((duration * (back + share * (free - back)), duration))
                first, second = [number(toll(kind, pair(dx), pair(dt))) for dx, dt in steps]
                both = toll(kind, pair(steps[0][0] + steps[1][0]), pair(steps[0][1] + steps[1][1]))
                self.assertLessEqual(number(both), first + second)
                doubled = toll(kind, pair(2 * steps[0][0]), pair(2 * steps[0][1]))
                self.assertEqual(2 * first, number(doubled))

    def test_the_kind_can_be_read_back(self):
        for kind in SOME:
            speeds, full = speeds_of(kind), number(kind[-1][0])
            for part in range(13):
                density = full * part / 12
                told = min(number(toll_rate(kind, speed)) + density * number(speed) for speed in speeds)
                self.assertEqual(flow_of(kind, density), told)

    def test_speeds_just_beyond(self):
        for kind in SOME:
            free, back = speeds_in(kind)[0], speeds_in(kind)[-1]
            for speed in (pair(free + TINY), pair(back - TINY), (10 ** 390, 1), (-10 ** 390, 1)):
                check_refused(self, InvalidSpeed, speed, toll_rate, kind, speed)
            self.assertLess(0, number(toll_rate(kind, pair(free - TINY))))
            self.assertLess(number(toll_rate(kind, pair(back + TINY))), number(toll_rate(kind, pair(back))))

    def test_wrong_values(self):
        check_wrong_values(self, toll, (ROAD, ONE, TWO), 0, InvalidKind, WRONG + [ROAD[:2], list(ROAD)])
        check_wrong_values(self, toll, (ROAD, ONE, TWO), 1, InvalidFraction, WRONG)
        check_wrong_values(self, toll, (ROAD, ONE, TWO), 2, InvalidContent, WRONG + BELOW_ZERO)
        check_order(self, toll, (ROAD, ONE, TWO), (InvalidKind, InvalidFraction, InvalidContent))
        check_wrong_values(self, toll_rate, (ROAD, ONE), 0, InvalidKind, WRONG + [ROAD[:2], list(ROAD)])
        check_wrong_values(self, toll_rate, (ROAD, ONE), 1, InvalidSpeed, WRONG + [pair(1 + TINY), (-2, 3)])
        check_order(self, toll_rate, (ROAD, ONE), (InvalidKind, InvalidSpeed))

    def test_no_step_comes_last(self):
        far = (10, 1)
        self.assertIs(NoStep, raised_by(toll, ROAD, far, ONE).__class__)
        self.assertIs(NoStep, raised_by(toll, kind=ROAD, distance=(-10, 1), duration=ONE).__class__)
        check_refused(self, InvalidContent, (-1, 1), toll, ROAD, far, (-1, 1))
        check_refused(self, InvalidFraction, (10, 5), toll, ROAD, (10, 5), ZERO)
        wrong = ROAD[:2]
        check_refused(self, InvalidKind, wrong, toll, wrong, far, ONE)


class TurnedRound(unittest.TestCase):
    def test_by_hand(self):
        self.assertEqual(((ZERO, ZERO), (TWO, ONE), (THREE, ZERO)), turned_kind(ROAD))
        told = ((ZERO, ZERO), ((3, 2), TWO), (THREE, (5, 2)), ((7, 2), ZERO))
        self.assertEqual(told, turned_kind(STEEP))

    def test_flow_of_what_is_left(self):
        for kind in SOME:
            turned, full = turned_kind(kind), number(kind[-1][0])
            self.assertIs(True, is_kind(turned))
            self.assertEqual(kind[-1], turned[-1])
            for part in range(25):
                density = full * part / 24
                self.assertEqual(pair(flow_of(kind, full - density)), flow_at(turned, pair(density)))

    def test_turned_twice(self):
        for kind in SOME:
            self.assertEqual(kind, turned_kind(turned_kind(kind)))

    def test_speeds_are_turned(self):
        for kind in SOME:
            self.assertEqual(tuple((-n, m) for n, m in speeds_of(kind)[::-1]), speeds_of(turned_kind(kind)))


class LargeNumbers(unittest.TestCase):
    """Numbers that the package returned are taken, however many figures they have."""

    # Each flow of this kind is a density of it, told by more figures than the density that it is asked for.
    KIND = ((ZERO, ZERO), (pair(8 - 16 * TINY), pair(8 - 8 * TINY)), ((8, 1), ZERO))

    def large_density(self):
        density = FOUR
        for _ in range(18):
            density = flow_at(self.KIND, density)
        return density

    def test_flows_of_flows(self):
        density = FOUR
        for _ in range(18):
            told = flow_of(self.KIND, number(density))
            density = flow_at(self.KIND, density)
            self.assertTrue(pair(told) == density)

    def test_passed_for_each_parameter(self):
        large = self.large_density()
        self.assertGreater(large[1].bit_length(), 16000)
        least, greatest = densities_with(self.KIND, large)
        self.assertTrue(large == flow_at(self.KIND, least))
        self.assertTrue(large == flow_at(self.KIND, greatest))
        self.assertTrue(pair(toll_of(self.KIND, 0, number(large))) == toll(self.KIND, ZERO, large))
        self.assertTrue(ZERO == toll(ROAD, large, large))
        steep = ((ZERO, ZERO), (ONE, (10, 1)), (TWO, ZERO))
        self.assertTrue(pair(toll_of(steep, number(large), 1)) == toll_rate(steep, large))
        self.assertIsNone(densities_with(ROAD, large))

    def test_kinds_with_large_numbers(self):
        turned = turned_kind(self.KIND)
        self.assertEqual(self.KIND, turned_kind(turned))
        for speed in speeds_of(turned):
            self.assertEqual(pair(toll_of(turned, number(speed), 1)), toll_rate(turned, speed))
            self.assertEqual(toll_rate(turned, speed), toll(turned, speed, ONE))

    def test_errors_keep_them(self):
        large = self.large_density()
        check_refused(self, InvalidDensity, large, flow_at, ROAD, large)
        check_refused(self, InvalidSpeed, large, toll_rate, ROAD, large)
        check_refused(self, InvalidKind, large, speeds_of, large)
        self.assertIs(NoStep, raised_by(toll, ROAD, large, ONE).__class__)
        below = speeds_of(self.KIND)[-1]
        check_refused(self, InvalidFlow, below, densities_with, ROAD, below)
        check_refused(self, InvalidContent, below, toll, ROAD, ZERO, below)


class ArgumentsStay(unittest.TestCase):
    def test_wrong_ones(self):
        wrong = [[[0, 1], [0, 1]], [[1, 1], [1, 1]], [[3, 1], [0, 1]]]
        copy = [[list(part) for part in corner] for corner in wrong]
        self.assertIs(False, is_kind(wrong))
        check_refused(self, InvalidKind, wrong, speeds_of, wrong)
        check_refused(self, InvalidDensity, wrong, flow_at, ROAD, wrong)
        self.assertEqual(copy, wrong)


if __name__ == "__main__":
    unittest.main()
