"""Numbers, held against a search over all ways, and ways: least ones, others, and what is none."""

import unittest
from fractions import Fraction

from roadwaves.errors import InvalidWay
from roadwaves.scenes import all_cars, comings_number
from roadwaves.ways import number_at, on_road, waiting_at, way_number, way_to
from tests.scene_support import (COMING, CROWD, EMPTY, FIVE, FOUR, HALF, LEVEL, LIGHT, NARROW, ONE, ROAD,
                                 SIX, SOME_SCENES, STOP, STREET, THREE, TWO, ZERO, arrivals_in, corners_in, is_on,
                                 on_line, points_through, random_point, random_scene, searched_number, some_scenes,
                                 starts_in, toll_of, tracks_in)
from tests.support import WRONG, check_refused, nested, number, pair, random_source


def points_of(scene, source, many):
    """Places and moments of a scene: random ones, its corners, and where lines through these meet something."""
    found = [random_point(source, scene) for _ in range(many)]
    corners = corners_in(scene)
    found += [tuple(map(pair, source.choice(corners))) for _ in range(many)]
    met = points_through(scene, source.choice(corners))
    found += [tuple(map(pair, source.choice(met))) for _ in range(many) if met]
    return found


def number_of_way(scene, way):
    """The number of a way, reckoned anew; None if it is none."""
    word, place, moment = way[0]
    place, moment = number(place), number(moment)
    if word != "start" or place != 0 and moment != 0:
        return None
    told = on_line(starts_in(scene), place) if moment == 0 else on_line(arrivals_in(scene), moment)
    for word, following, later in way[1:]:
        following, later = number(following), number(later)
        if word == "step":
            toll = toll_of(scene[0], following - place, later - moment)
        else:
            rates = [track[4] for track in tracks_in(scene)
                     if word == "ride" and is_on(track, place, moment) and is_on(track, following, later)]
            toll = rates[0] * (later - moment) if rates and later > moment else None
        if toll is None:
            return None
        told, place, moment = told + toll, following, later
    return told


class NumbersBySearch(unittest.TestCase):
    def check(self, scene, points):
        for place, moment in points:
            with self.subTest(scene=scene, place=place, moment=moment):
                self.assertEqual(pair(searched_number(scene, place, moment)), number_at(scene, place, moment))

    def test_scenes_by_hand(self):
        source = random_source(1)
        for scene in SOME_SCENES:
            self.check(scene, points_of(scene, source, 6))

    def test_random_scenes(self):
        for bars in range(4):
            source = random_source(100 + bars)
            for _ in range(30):
                scene = random_scene(source, bars)
                self.check(scene, points_of(scene, source, 2))

    def test_on_rims(self):
        source = random_source(2)
        for scene in some_scenes(3, 12):
            for part in range(0, 11, 2):
                moment = pair(Fraction(part))
                self.check(scene, [(ZERO, moment), (scene[1], moment), (pair(number(scene[1]) * part / 10), ZERO)])

    def test_on_bars_and_at_their_ends(self):
        for scene in some_scenes(4, 24):
            for place, begin, speed, end, _ in tracks_in(scene):
                for part in range(5):
                    moment = begin + (end - begin) * part / 4
                    self.check(scene, [(pair(place + speed * (moment - begin)), pair(moment))])

    def test_long_after_all_are_out(self):
        for scene in some_scenes(5, 12):
            for part in (0, 1, 2):
                place = pair(number(scene[1]) * part / 2)
                self.assertEqual(all_cars(scene), number_at(scene, place, (10 ** 6, 1)))
                self.assertEqual(all_cars(scene), number_at(scene, place, (10 ** 300, 7)))


class NumbersByHand(unittest.TestCase):
    def test_a_light(self):
        found = [number_at(LIGHT, ONE, moment) for moment in (ONE, TWO, THREE, (7, 2), FOUR, FIVE, SIX)]
        self.assertEqual([ZERO, ZERO, ZERO, HALF, ONE, TWO, TWO], found)

    def test_a_crowd(self):
        # Two wait, and come in with the top flow.
        self.assertEqual([ZERO, HALF, ONE, TWO, TWO], [number_at(CROWD, ZERO, moment) for moment in
                                                       (ZERO, HALF, ONE, TWO, THREE)])
        self.assertEqual([ZERO, ZERO, ONE, TWO], [number_at(CROWD, TWO, moment) for moment in (ZERO, TWO, THREE, FOUR)])

    def test_a_narrow_place(self):
        self.assertEqual([ZERO, HALF, ONE, TWO], [number_at(NARROW, TWO, moment) for moment in
                                                  (TWO, THREE, FOUR, SIX)])

    def test_a_red_light_where_cars_come_in(self):
        scene = (ROAD, TWO, EMPTY, (ONE, ()), ((ZERO, ONE, ZERO, TWO, ZERO),))
        self.assertEqual([HALF, ONE, ONE, ONE], [number_at(scene, ZERO, moment) for moment in (HALF, ONE, TWO, FOUR)])
        scene = (ROAD, TWO, EMPTY, (ONE, ()), ((ZERO, ZERO, ZERO, TWO, ZERO),))
        self.assertEqual([ZERO, ZERO, HALF, ONE], [number_at(scene, ZERO, moment) for moment in
                                                   (HALF, TWO, (5, 2), THREE)])

    def test_a_red_light_where_cars_go_out(self):
        scene = (ROAD, TWO, ((TWO, ONE),), (ZERO, ()), ((TWO, ZERO, ZERO, TWO, ZERO),))
        self.assertEqual([(-2, 1), (-2, 1), (-1, 1), ZERO], [number_at(scene, TWO, moment) for moment in
                                                            (ONE, TWO, THREE, FOUR)])
        # Both stand on the last two thirds of a length.
        self.assertEqual([ZERO, (-1, 1)], [number_at(scene, place, TWO) for place in ((4, 3), (5, 3))])

    def test_a_full_jam_lets_go(self):
        scene = (ROAD, TWO, ((TWO, THREE),), (ZERO, ()), ())
        self.assertEqual([(-6, 1), (-5, 1), (-2, 1)], [number_at(scene, TWO, moment) for moment in (ZERO, ONE, FOUR)])
        self.assertEqual([(-3, 1), (-3, 1), (-2, 1)], [number_at(scene, ONE, moment) for moment in (ZERO, TWO, THREE)])


class Monotone(unittest.TestCase):
    def test_never_falls_and_never_rises(self):
        source = random_source(7)
        for scene in some_scenes(8, 16):
            length = number(scene[1])
            for _ in range(8):
                place, moment = random_point(source, scene)
                more = pair(number(moment) + Fraction(source.randint(0, 9), 4))
                further = pair(number(place) + (length - number(place)) * Fraction(source.randint(0, 5), 5))
                here = number(number_at(scene, place, moment))
                self.assertLessEqual(here, number(number_at(scene, place, more)))
                self.assertGreaterEqual(here, number(number_at(scene, further, moment)))

    def test_one_density_on_each_side(self):
        # The number falls evenly next to each place, and the flow is that of both densities.
        source = random_source(9)
        for scene in some_scenes(10, 16):
            length = number(scene[1])
            for _ in range(4):
                place, moment = map(number, random_point(source, scene))
                step = Fraction(1, 10 ** 12)
                for side in (1, -1):
                    if moment > 0 and 0 <= place + side * step <= length:
                        told = [number(number_at(scene, pair(place + side * step * part), pair(moment)))
                                for part in (0, 1, 2)]
                        self.assertEqual(told[1] - told[0], told[2] - told[1])
                        density = side * (told[0] - told[1]) / step
                        self.assertTrue(0 <= density <= number(scene[0][-1][0]))


class LeastWays(unittest.TestCase):
    def test_way_to(self):
        source = random_source(31)
        for scene in some_scenes(32, 60):
            for place, moment in points_of(scene, source, 2):
                way = way_to(scene, place, moment)
                with self.subTest(scene=scene, way=way):
                    self.assertEqual((place, moment), way[-1][1:])
                    self.assertEqual("start", way[0][0])
                    self.assertLessEqual({word for word, _, _ in way[1:]}, {"step", "ride"})
                    self.assertTrue(all(point.__class__ is tuple and len(point) == 3 for point in way))
                    told = number_at(scene, place, moment)
                    self.assertEqual(told, way_number(scene, way))
                    self.assertEqual(told, pair(number_of_way(scene, way)))

    def test_a_start_alone(self):
        self.assertEqual((("start", ONE, ZERO),), way_to(STREET, ONE, ZERO))
        self.assertEqual((("start", ZERO, THREE),), way_to((ROAD, TWO, EMPTY, COMING, ()), ZERO, THREE))

    def test_no_way_has_less(self):
        # Random ways from start to end by steps and rides.
        source = random_source(33)
        for scene in some_scenes(34, 30):
            for _ in range(6):
                way = random_way(source, scene)
                found = way_number(scene, way)
                self.assertEqual(pair(number_of_way(scene, way)), found)
                self.assertLessEqual(number(number_at(scene, *way[-1][1:])), number(found))


def random_way(source, scene):
    """Some way of a scene."""
    speeds = [(number(b[1]) - number(a[1])) / (number(b[0]) - number(a[0])) for a, b in zip(scene[0], scene[0][1:])]
    length = number(scene[1])
    if source.random() < 0.5:
        way = [("start", pair(length * Fraction(source.randint(0, 6), 6)), ZERO)]
    else:
        way = [("start", ZERO, pair(Fraction(source.randint(1, 9), 3)))]
    for _ in range(source.randint(0, 4)):
        place, moment = map(number, way[-1][1:])
        rides = [track for track in tracks_in(scene) if is_on(track, place, moment) and moment < track[3]]
        if rides:
            begin, since, speed, end, _ = rides[0]
            later = moment + (end - moment) * Fraction(source.randint(1, 3), 3)
            way.append(("ride", pair(begin + speed * (later - since)), pair(later)))
        bars = [track for track in tracks_in(scene) if track[3] > moment]
        place, moment = map(number, way[-1][1:])
        target = place + (speeds[-1] + (speeds[0] - speeds[-1]) * Fraction(source.randint(0, 6), 6)) * Fraction(1, 2)
        later = moment + Fraction(1, 2)
        if bars and source.random() < 0.7:
            begin, since, speed, end, _ = source.choice(bars)
            met = max(since, moment) + (end - max(since, moment)) * Fraction(source.randint(0, 3), 3)
            if toll_of(scene[0], begin + speed * (met - since) - place, met - moment) is not None:
                target, later = begin + speed * (met - since), met
        if 0 <= target <= length:
            way.append(("step", pair(target), pair(later)))
    return tuple(way)


class WayNumbers(unittest.TestCase):
    WAY = (("start", ZERO, ZERO), ("step", ONE, ONE), ("ride", ONE, THREE), ("step", ONE, FOUR))

    def test_by_hand(self):
        self.assertEqual(ONE, way_number(LIGHT, self.WAY))
        self.assertEqual((3, 2), way_number(LIGHT, (("start", ZERO, THREE), ("step", ONE, FOUR))))
        self.assertEqual(TWO, way_number(LIGHT, (("start", ZERO, FIVE),)))
        self.assertEqual(ZERO, way_number(LIGHT, (("start", TWO, ZERO),)))
        self.assertEqual((-1, 1), way_number(STREET, (("start", TWO, ZERO),)))
        self.assertEqual(THREE, way_number(LIGHT, (("start", ONE, ZERO), ("step", ONE, THREE))))
        self.assertEqual((-1, 2), way_number(STREET, (("start", ONE, ZERO), ("step", ONE, ZERO))))

    def test_at_the_place_0_and_the_moment_0(self):
        # There the number of those who stand on the road is told, not of those who wait.
        self.assertEqual(ZERO, way_number(CROWD, (("start", ZERO, ZERO),)))
        self.assertEqual(TWO, way_number(CROWD, (("start", ZERO, (1, 10 ** 300)),)))

    def test_steps_of_no_distance_and_no_time(self):
        way = (self.WAY[0], ("step", ZERO, ZERO)) + self.WAY[1:] + (("step", ONE, FOUR),)
        self.assertEqual(ONE, way_number(LIGHT, way))

    def test_rides(self):
        rides = (("start", ZERO, ZERO), ("step", ONE, ONE), ("ride", ONE, TWO), ("ride", ONE, (5, 2)),
                 ("ride", ONE, THREE))
        for many in range(2, 6):
            self.assertEqual(ZERO, way_number(LIGHT, rides[:many]))
        # A quarter of a car overtakes the leader for each unit of time.
        slow = (ROAD, FOUR, ((FOUR, ZERO),), COMING, ((ZERO, ONE, HALF, FOUR, (1, 4)),))
        way = (("start", ZERO, ONE), ("ride", HALF, TWO), ("ride", TWO, FIVE), ("step", FOUR, (7, 1)))
        told = [way_number(slow, way[:many]) for many in (1, 2, 3, 4)]
        self.assertEqual([HALF, (3, 4), (3, 2), (3, 2)], told)

    def refused(self, scene, way):
        check_refused(self, InvalidWay, way, way_number, scene, way)
        check_refused(self, InvalidWay, way, way_number, way=way, scene=scene)

    def test_no_ways(self):
        for value in WRONG + [nested(14), list(self.WAY), (self.WAY,), self.WAY[0], "start", {}, self.WAY[1:]]:
            self.refused(LIGHT, value)
        for at in range(4):
            for point in WRONG + [list(self.WAY[at]), self.WAY[at][:2], self.WAY[at] + (ZERO,), self.WAY]:
                self.refused(LIGHT, self.WAY[:at] + (point,) + self.WAY[at + 1:])

    def test_wrong_parts(self):
        for at in range(4):
            word, place, moment = self.WAY[at]
            wrong = [(value, place, moment) for value in WRONG + ["", "Start", "steps", "stand", b"step", ("step",)]]
            wrong += [(word, value, moment) for value in WRONG + [(3, 1), (-1, 1)]]
            wrong += [(word, place, value) for value in WRONG + [(-1, 1)]]
            for point in wrong:
                self.refused(LIGHT, self.WAY[:at] + (point,) + self.WAY[at + 1:])

    def test_ways_that_do_not_start(self):
        self.refused(LIGHT, (("start", ONE, ONE),))
        self.refused(LIGHT, (("step", ZERO, ZERO),))
        self.refused(LIGHT, (("ride", ONE, ONE), ("ride", ONE, TWO)))
        self.refused(LIGHT, (("start", ZERO, ZERO), ("start", ZERO, ONE)))
        self.refused(LIGHT, (("start", (1, 10 ** 300), (1, 10 ** 300)),))

    def test_steps_that_are_none(self):
        self.refused(STREET, (("start", ONE, ZERO), ("step", pair(2 + Fraction(1, 10 ** 300)), ONE)))
        self.refused(STREET, (("start", ONE, ZERO), ("step", pair(Fraction(1, 2) - Fraction(1, 10 ** 300)), ONE)))
        self.refused(STREET, (("start", ONE, ZERO), ("step", ONE, TWO), ("step", ONE, ONE)))
        self.refused(STREET, (("start", ONE, ZERO), ("step", (11, 10), ZERO)))
        self.assertEqual((-1, 2), way_number(STREET, (("start", ONE, ZERO), ("step", TWO, ONE))))
        self.assertEqual(ONE, way_number(STREET, (("start", ONE, ZERO), ("step", HALF, ONE))))

    def test_rides_off_bars(self):
        start = (("start", ZERO, ZERO), ("step", ONE, ONE))
        # Behind the bar's end, ahead of its start, beside it, back in time, and of no time.
        self.refused(LIGHT, start + (("ride", ONE, (7, 2)),))
        self.refused(LIGHT, (("start", ONE, ZERO), ("ride", ONE, TWO)))
        self.refused(LIGHT, (("start", ZERO, ZERO), ("step", ONE, (1, 1)), ("ride", (11, 10), TWO)))
        self.refused(LIGHT, start + (("ride", ONE, TWO), ("ride", ONE, (3, 2))))
        self.refused(LIGHT, start + (("ride", ONE, ONE),))
        self.refused(LIGHT, (("start", ONE, ZERO), ("step", ONE, HALF), ("ride", ONE, TWO)))
        self.refused(LIGHT[:4] + ((),), start + (("ride", ONE, TWO),))

    def test_a_ride_is_on_one_bar(self):
        two = (ROAD, FOUR, ((FOUR, HALF),), COMING, (STOP, (TWO, THREE, ZERO, TWO, (1, 3))))
        start = (("start", TWO, ZERO), ("step", TWO, ONE))
        self.assertEqual(pair(Fraction(1, 3)), way_number(two, start + (("ride", TWO, THREE), ("ride", TWO, FOUR))))
        self.refused(two, start + (("ride", TWO, FOUR),))


class Waiting(unittest.TestCase):
    def test_by_hand(self):
        self.assertEqual([TWO, ONE, ZERO, ZERO], [waiting_at(CROWD, moment) for moment in (ZERO, ONE, TWO, SIX)])
        self.assertEqual([ZERO, ONE, TWO, ONE, ZERO], [on_road(CROWD, moment) for moment in
                                                       (ZERO, ONE, TWO, THREE, FOUR)])
        self.assertEqual([(3, 2), TWO, ONE], [on_road(LIGHT, moment) for moment in (THREE, FOUR, FIVE)])
        self.assertEqual(SIX, on_road((ROAD, TWO, ((TWO, THREE),), (ONE, ()), ()), ZERO))
        self.assertEqual(ONE, waiting_at((ROAD, TWO, ((TWO, THREE),), (ONE, ()), ()), ONE))

    def test_never_below_0_and_held_against_numbers(self):
        source = random_source(41)
        for scene in some_scenes(42, 20):
            for _ in range(6):
                moment = random_point(source, scene)[1]
                waiting, driving = waiting_at(scene, moment), on_road(scene, moment)
                self.assertGreaterEqual(waiting[0], 0)
                self.assertGreaterEqual(driving[0], 0)
                come, inside = number(comings_number(scene, moment)), number(number_at(scene, ZERO, moment))
                self.assertEqual(pair(come - inside), waiting)
                self.assertEqual(pair(inside - number(number_at(scene, scene[1], moment))), driving)

    def test_level_top(self):
        scene = (LEVEL, FOUR, ((FOUR, (5, 2)),), (FOUR, ()), ())
        self.assertEqual([FOUR, ONE, ZERO], [waiting_at(scene, moment) for moment in (ZERO, ONE, TWO)])


if __name__ == "__main__":
    unittest.main()
