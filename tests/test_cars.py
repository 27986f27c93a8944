"""Cars: when they come and pass, their courses, and when the last one is out."""

import unittest
from fractions import Fraction

from roadwaves.cars import coming, course, last_out, passing, travel_time
from roadwaves.pictures import counts_at
from roadwaves.scenes import all_cars, comings_number
from roadwaves.ways import number_at, on_road, waiting_at
from tests.scene_support import (COMING, CROWD, EMPTY, FIVE, FOUR, HALF, LEVEL, LIGHT, NARROW, ONE, ROAD, SIX,
                                 SOME_SCENES, STOP, STREET, THREE, TWO, ZERO, some_scenes, speeds_in, starts_in)
from tests.support import number, pair, random_source

SMALL = Fraction(1, 10 ** 12)


def told_at(scene, place, moment):
    """The number at a place and moment, all of them Python's own fractions."""
    return number(number_at(scene, pair(place), pair(moment)))


def cars_of(scene, source, many):
    """Cars of a scene: the first and the last one, 0, and some between."""
    first, last = starts_in(scene)[-1][1], number(all_cars(scene))
    between = [first + (last - first) * Fraction(source.randint(0, 30), 30) for _ in range(many)]
    return [pair(car) for car in [first, last, Fraction(0)] + between]


class Passing(unittest.TestCase):
    def test_held_against_numbers(self):
        source = random_source(1)
        for scene in some_scenes(2, 40):
            for car in cars_of(scene, source, 3):
                for part in (0, 1, 3, 4):
                    place = number(scene[1]) * part / 4
                    moment = number(passing(scene, car, pair(place)))
                    with self.subTest(scene=scene, car=car, place=place):
                        self.assertGreaterEqual(told_at(scene, place, moment), number(car))
                        if moment > 0:
                            self.assertEqual(number(car), told_at(scene, place, moment))
                            for less in (SMALL, moment / 2, moment):
                                self.assertLess(told_at(scene, place, moment - less), number(car))

    def test_nobody_overtakes_and_nobody_is_too_fast(self):
        source = random_source(3)
        for scene in some_scenes(4, 20):
            cars = sorted(map(number, cars_of(scene, source, 3)))
            length, free = number(scene[1]), speeds_in(scene[0])[0]
            before = [Fraction(0)] * 5
            for car in cars:
                moments = [number(passing(scene, pair(car), pair(length * part / 4))) for part in range(5)]
                self.assertTrue(all(one <= other for one, other in zip(before, moments)))
                before = moments
                for at in range(4):
                    if moments[at] > 0:
                        self.assertGreaterEqual((moments[at + 1] - moments[at]) * free, length / 4)

    def test_by_hand(self):
        self.assertEqual([(7, 2), ZERO, ZERO], [passing(STREET, car, place) for car, place in
                                               ((ZERO, TWO), ((-1, 1), ONE), ((-2, 1), FOUR))])
        self.assertEqual([ONE, THREE], [passing(CROWD, ONE, place) for place in (ZERO, TWO)])
        self.assertEqual([ZERO, ZERO, ZERO], [passing(CROWD, ZERO, place) for place in (ZERO, ONE, TWO)])


class Coming(unittest.TestCase):
    def test_held_against_those_who_come(self):
        source = random_source(5)
        for scene in some_scenes(6, 30):
            for car in cars_of(scene, source, 4):
                moment = number(coming(scene, car))
                come = number(comings_number(scene, pair(moment)))
                self.assertGreaterEqual(come, number(car))
                if moment > 0:
                    self.assertEqual(come, number(car))
                    self.assertLess(number(comings_number(scene, pair(moment - min(SMALL, moment)))), number(car))
                left = number(passing(scene, car, scene[1]))
                self.assertEqual(pair(left - moment), travel_time(scene, car))

    def test_by_hand(self):
        self.assertEqual([TWO, ZERO, ZERO, SIX], [coming(STREET, car) for car in (ONE, ZERO, (-2, 1), THREE)])
        self.assertEqual([ZERO, ZERO], [coming(CROWD, car) for car in (ZERO, TWO)])
        self.assertEqual([(11, 2), ZERO, FOUR], [travel_time(STREET, car) for car in (ZERO, (-2, 1), THREE)])
        self.assertEqual(FOUR, travel_time(CROWD, TWO))

    def test_a_pause(self):
        scene = (ROAD, TWO, EMPTY, (ONE, ((ONE, ONE), (THREE, ZERO), (ONE, ONE))), ())
        found = [coming(scene, car) for car in (ZERO, ONE, (3, 2), TWO, (5, 2), THREE)]
        self.assertEqual([ZERO, ZERO, HALF, ONE, (9, 2), FIVE], found)

    def test_a_step_behind_the_last_rate(self):
        # Behind the last piece with a rate nobody comes, whatever pieces follow.
        scene = (ROAD, TWO, EMPTY, (ZERO, ((ONE, ONE), (THREE, ZERO))), ())
        self.assertEqual((ONE, THREE), (coming(scene, ONE), last_out(scene)))


class Course(unittest.TestCase):
    def test_held_against_numbers(self):
        source = random_source(7)
        for scene in some_scenes(8, 60):
            for car in cars_of(scene, source, 3):
                with self.subTest(scene=scene, car=car):
                    self.check_course(scene, car, course(scene, car))

    def check_course(self, scene, car, corners):
        self.assertIs(tuple, corners.__class__)
        points = [tuple(map(number, corner)) for corner in corners]
        told = number(car)
        first = ZERO if told <= 0 else passing(scene, car, ZERO)
        self.assertEqual((first, (passing(scene, car, scene[1]), scene[1])), (corners[0][0], corners[-1]))
        if told > 0:
            self.assertEqual(ZERO, corners[0][1])
        free, length = speeds_in(scene[0])[0], number(scene[1])
        slopes = [(b[1] - a[1]) / (b[0] - a[0]) for a, b in zip(points, points[1:])]
        self.assertTrue(all(0 <= slope <= free for slope in slopes))
        self.assertTrue(all(one != other for one, other in zip(slopes, slopes[1:])))
        for (moment, place), slope, (later, _) in zip(points, slopes + [0], points[1:] + points[-1:]):
            self.assertLessEqual(moment, later)
            for part in range(4):
                now = moment + (later - moment) * part / 3
                there = place + slope * (now - moment)
                self.assertGreaterEqual(told_at(scene, there, now), told)
                if there < length:
                    self.assertLess(told_at(scene, min(there + SMALL, length), now), told)

    def test_by_hand(self):
        self.assertEqual(((ZERO, ZERO), ((11, 6), (11, 6)), ((10, 3), (11, 6)), ((11, 2), FOUR)), course(STREET, ZERO))
        self.assertEqual(((ONE, ZERO), (THREE, TWO)), course(CROWD, ONE))
        self.assertEqual(((ZERO, THREE), (ONE, FOUR)), course(STREET, (-3, 2)))

    def test_one_corner(self):
        self.assertEqual(((ZERO, FOUR),), course(STREET, (-2, 1)))
        # The first car of an empty road is everywhere past.
        self.assertEqual(((ZERO, TWO),), course(CROWD, ZERO))

    def test_the_first_one_at_a_light(self):
        scene = (ROAD, FOUR, ((ONE, ONE), (THREE, ZERO)), (ZERO, ()), (STOP,))
        self.assertEqual(((ZERO, FOUR),), course(scene, (-1, 1)))
        # Just behind the first one: he stands just behind the light.
        self.assertEqual(pair(2 - SMALL / 3), course(scene, pair(-1 + SMALL))[2][1])
        self.assertEqual(((ZERO, HALF), ((4, 3), (11, 6)), ((10, 3), (11, 6)), ((11, 2), FOUR)),
                         course(scene, (-1, 2)))

    def test_a_light_at_the_end(self):
        # Who comes to the end is there, whether he gets out or not.
        scene = (ROAD, TWO, ((TWO, ONE),), (ZERO, ()), ((TWO, ZERO, ZERO, TWO, ZERO),))
        self.assertEqual(((ZERO, TWO),), course(scene, (-2, 1)))
        self.assertEqual((THREE, TWO), course(scene, (-1, 1))[-1])

    def test_in_a_full_jam(self):
        scene = (ROAD, TWO, ((TWO, THREE),), (ZERO, ()), ())
        self.assertEqual(((ZERO, ONE), (TWO, ONE), (THREE, TWO)), course(scene, (-3, 1)))

    def test_ahead_of_a_gap(self):
        # The last one of those ahead, and the first one of those behind.
        scene = (ROAD, FOUR, ((ONE, HALF), (ONE, ZERO), (TWO, HALF)), (ZERO, ()), ())
        self.assertEqual(((ZERO, TWO), (TWO, FOUR)), course(scene, (-1, 2)))
        self.assertEqual((ZERO, pair(Fraction(1) - 2 * SMALL)), course(scene, pair(-Fraction(1, 2) + SMALL))[0])


class LastOut(unittest.TestCase):
    def test_held_against_numbers(self):
        for scene in some_scenes(9, 40):
            last = number(last_out(scene))
            with self.subTest(scene=scene):
                for later in (last, last + SMALL, last + 1, last + 1000):
                    self.assertEqual((ZERO, ZERO), (waiting_at(scene, pair(later)), on_road(scene, pair(later))))
                if last > 0:
                    before = pair(last - min(SMALL, last))
                    self.assertNotEqual(all_cars(scene), number_at(scene, scene[1], before))
                self.assertEqual(counts_at(scene, scene[1])[-1][0], pair(last))

    def test_by_hand(self):
        self.assertEqual([(10, 1), SIX, FOUR, (8, 1)], [last_out(scene) for scene in (STREET, LIGHT, CROWD, NARROW)])

    def test_scenes_without_any_car(self):
        for scene in SOME_SCENES[5:7]:
            self.assertEqual(ZERO, last_out(scene))
            self.assertEqual(((ZERO, scene[1]),), course(scene, ZERO))
            self.assertEqual((ZERO, ZERO, ZERO),
                             (passing(scene, ZERO, ZERO), coming(scene, ZERO), travel_time(scene, ZERO)))

    def test_nobody_between(self):
        # For a while nobody is on the road or ahead of it, but one comes later.
        scene = (ROAD, TWO, EMPTY, (ZERO, ((ONE, ONE), (SIX, ZERO), (ONE, ONE))), ())
        self.assertEqual((10, 1), last_out(scene))

    def test_level_top(self):
        scene = (LEVEL, FOUR, ((FOUR, (5, 2)),), COMING, ())
        self.assertEqual(pair(Fraction(6)), last_out(scene))


if __name__ == "__main__":
    unittest.main()
