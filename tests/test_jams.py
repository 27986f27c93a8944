"""Jams: where, when, up to when and how far back, held against densities from numbers."""

import unittest
from fractions import Fraction

from roadwaves.cars import last_out
from roadwaves.jams import is_jammed, jam_reach, jammed_moments, jammed_places, last_jam
from roadwaves.kinds import toll_rate
from roadwaves.pictures import picture
from roadwaves.scenes import begun_anew, is_scene
from roadwaves.ways import number_at
from tests.scene_support import (COMING, EMPTY, FIVE, FOUR, HALF, LEVEL, LIGHT, NARROW, ONE, ROAD, SIX, SOME_SCENES,
                                 STOP, STREET, THREE, TWO, ZERO, corners_in, random_point, random_scene, some_scenes)
from tests.support import number, pair, random_source

SMALL = Fraction(1, 10 ** 15)


def told_at(scene, place, moment):
    """The number at a place and moment, all of them Python's own fractions."""
    return number(number_at(scene, pair(place), pair(moment)))


def density_behind(scene, place, moment):
    """The density behind a place (at the place 0 that ahead of it), from numbers."""
    if place == 0:
        return (told_at(scene, place, moment) - told_at(scene, place + SMALL, moment)) / SMALL
    return (told_at(scene, place - SMALL, moment) - told_at(scene, place, moment)) / SMALL


def is_slow(scene, density):
    """Whether a density is jammed."""
    return density > number(scene[0][1][0])


def lies_in(stretches, at):
    """Whether a place or moment lies on one of some stretches, the ends being counted."""
    return any(number(one) <= at <= number(other) for one, other in stretches)


class Jam(unittest.TestCase):
    def check_form(self, stretches):
        """Stretches have to be ascending and to touch nowhere."""
        self.assertIs(tuple, stretches.__class__)
        for one, other in stretches:
            self.assertLess(number(one), number(other))
        for (_, end), (begin, _) in zip(stretches, stretches[1:]):
            self.assertLess(number(end), number(begin))

    def test_places_held_against_numbers(self):
        source = random_source(1)
        for scene in some_scenes(2, 40):
            for moment in [random_point(source, scene)[1] for _ in range(4)] + [ZERO]:
                stretches = jammed_places(scene, moment)
                self.check_form(stretches)
                length = number(scene[1])
                ends = [number(end) for stretch in stretches for end in stretch]
                places = [length * Fraction(part, 24) for part in range(1, 25)] + ends
                for place in places:
                    # Next to ends densities differ; there both sides are looked at.
                    for at in (place, min(place + 2 * SMALL, length)):
                        if at > 0 and number(moment) > 0:
                            slow = is_slow(scene, density_behind(scene, at, number(moment)))
                            middle = at - SMALL / 2
                            with self.subTest(scene=scene, moment=moment, place=at):
                                self.assertEqual(slow, lies_in(stretches, middle))

    def test_places_held_against_pictures(self):
        source = random_source(3)
        for scene in some_scenes(4, 40):
            for moment in [random_point(source, scene)[1] for _ in range(4)] + [ZERO]:
                stretches = jammed_places(scene, moment)
                for begin, end, density, _ in picture(scene, moment):
                    middle = (number(begin) + number(end)) / 2
                    self.assertEqual(is_slow(scene, number(density)), lies_in(stretches, middle))
                    for place in (begin, end, pair(middle)):
                        found = is_jammed(scene, place, moment)
                        self.assertIs(bool, found.__class__)
                        self.assertEqual(lies_in(stretches, number(place)), found)

    def test_moments_held_against_numbers(self):
        source = random_source(5)
        for scene in some_scenes(6, 40):
            for place in [random_point(source, scene)[0] for _ in range(3)] + [ZERO, scene[1]]:
                stretches = jammed_moments(scene, place)
                self.check_form(stretches)
                ends = [number(end) for stretch in stretches for end in stretch]
                moments = [Fraction(source.randint(1, 200), 17) for _ in range(8)] + ends
                for moment in moments:
                    for at in (moment + SMALL ** 2, moment - SMALL ** 2):
                        if at > 0:
                            with self.subTest(scene=scene, place=place, moment=at):
                                slow = is_slow(scene, self.density_around(scene, number(place), at))
                                self.assertEqual(slow, lies_in(stretches, at))

    def density_around(self, scene, place, moment):
        """The density behind a place, so near to it that a moment next to an end is told apart."""
        near = SMALL ** 3
        if place == 0:
            return (told_at(scene, place, moment) - told_at(scene, place + near, moment)) / near
        return (told_at(scene, place - near, moment) - told_at(scene, place, moment)) / near

    def test_by_hand(self):
        self.assertEqual((((9, 5), TWO),), jammed_places(STREET, TWO))
        self.assertEqual((((3, 1), (19, 5)),), jammed_moments(STREET, (8, 5)))
        self.assertEqual(((ONE, THREE),), jammed_moments(STREET, TWO))
        self.assertEqual((), jammed_places(STREET, FIVE))
        self.assertEqual((((3, 2), TWO),), jammed_places(NARROW, THREE))
        self.assertEqual((), jammed_places((ROAD, TWO, EMPTY, COMING, ()), ONE))

    def test_ends_are_in_the_jam(self):
        for place, right in (((9, 5), True), (TWO, True), ((19, 10), True), ((17, 10), False), ((21, 10), False)):
            self.assertIs(right, is_jammed(STREET, place, TWO))
        self.assertIs(False, is_jammed(STREET, pair(Fraction(9, 5) - SMALL), TWO))
        self.assertIs(False, is_jammed(STREET, pair(2 + SMALL), TWO))
        self.assertIs(False, is_jammed(STREET, TWO, ONE))
        self.assertIs(True, is_jammed(STREET, TWO, pair(1 + SMALL)))

    def test_stretches_that_touch_are_one(self):
        beginning = ((ONE, TWO), (ONE, THREE), (ONE, HALF), (ONE, (5, 2)))
        scene = (ROAD, FOUR, beginning, (ZERO, ()), ())
        self.assertEqual(((ZERO, TWO), (THREE, FOUR)), jammed_places(scene, ZERO))
        # A full jam lets go by way of the density 4 / 3 and others: one stretch of time, too.
        kind = ((ZERO, ZERO), (ONE, ONE), (TWO, (3, 2)), (FOUR, ONE), (SIX, ZERO))
        scene = (kind, FOUR, ((TWO, SIX), (TWO, ZERO)), (ZERO, ()), ())
        self.assertEqual(1, len(jammed_moments(scene, ONE)))
        self.assertEqual(ZERO, jammed_moments(scene, ONE)[0][0])

    def test_at_the_place_0(self):
        # There the density ahead is looked at.
        jam = (ROAD, TWO, ((TWO, THREE),), (ZERO, ()), ())
        self.assertEqual((), jammed_moments(jam, TWO)[1:])
        self.assertEqual(((ZERO, FOUR),), jammed_moments(jam, ZERO))
        self.assertEqual((), jammed_moments(LIGHT, ZERO))
        self.assertEqual(((ZERO, TWO),), jammed_places(jam, ZERO))
        self.assertEqual([True, True, True, False], [is_jammed(jam, ZERO, moment) for moment in
                                                     (ZERO, ONE, pair(4 - SMALL), FOUR)])

    def test_at_the_density_of_the_second_corner(self):
        # It is free; any more is jammed.
        self.assertEqual((), jammed_places((ROAD, TWO, ((TWO, ONE),), COMING, ()), ZERO))
        more = pair(1 + SMALL)
        self.assertEqual(((ZERO, TWO),), jammed_places((ROAD, TWO, ((TWO, more),), COMING, ()), ZERO))
        # Of a kind with more corners the second one counts, not the top.
        self.assertEqual(((ZERO, TWO),), jammed_places((LEVEL, TWO, ((TWO, (3, 2)),), COMING, ()), ZERO))


class LastAndReach(unittest.TestCase):
    def scenes(self):
        return some_scenes(7, 80)

    def test_behind_the_last_jam_none_is(self):
        source = random_source(8)
        for scene in self.scenes():
            last = last_jam(scene)
            if last is None:
                continue
            with self.subTest(scene=scene):
                for later in (number(last), number(last) + SMALL, number(last) + source.randint(1, 99)):
                    self.assertEqual((), jammed_places(scene, pair(later)))
                self.assertNotEqual((), jammed_places(scene, pair(number(last) - SMALL)))
                self.assertLessEqual(number(last), number(last_out(scene)))
                anew = begun_anew(scene, last)
                if is_scene(anew):
                    self.assertIsNone(last_jam(anew))

    def test_at_no_place_less_than_the_reach_is_jam(self):
        for scene in self.scenes():
            reach = jam_reach(scene)
            self.assertEqual(reach is None, last_jam(scene) is None)
            if reach is None:
                continue
            length = number(scene[1])
            with self.subTest(scene=scene):
                for part in range(6):
                    place = number(reach) * part / 6
                    if place < number(reach):
                        self.assertEqual((), jammed_moments(scene, pair(place)))
                if number(reach) > 0:
                    self.assertEqual((), jammed_moments(scene, pair(number(reach) - SMALL)))
                self.assertLess(number(reach), length)
                self.assertNotEqual((), jammed_moments(scene, pair(number(reach) + SMALL)))

    def test_none_where_no_place_is_ever_jammed(self):
        source = random_source(9)
        for scene in self.scenes():
            if last_jam(scene) is None:
                for _ in range(4):
                    place, moment = random_point(source, scene)
                    self.assertEqual(((), ()), (jammed_places(scene, moment), jammed_moments(scene, place)))
                    self.assertIs(False, is_jammed(scene, place, moment))

    def test_free_traffic(self):
        source = random_source(10)
        for at in range(30):
            kind, length, beginning, comings, bars = random_scene(source, at % 4)
            free, flow = map(number, kind[1])
            freed = tuple((width, pair(min(number(density), free))) for width, density in beginning)
            coming = (ZERO, tuple((duration, pair(min(number(rate), flow))) for duration, rate in comings[1]))
            wide = tuple(bar[:4] + (toll_rate(kind, bar[2]),) for bar in bars)
            scene = (kind, length, freed, coming, wide)
            self.assertEqual((None, None), (last_jam(scene), jam_reach(scene)))
            for place, moment in [random_point(source, scene) for _ in range(3)]:
                self.assertEqual(((), ()), (jammed_places(scene, moment), jammed_moments(scene, place)))

    def test_just_too_much(self):
        # A little more comes than the flow of the second corner, or a little less gets past.
        little = (1, 10 ** 200)
        more = (LEVEL, FOUR, ((FOUR, ONE),), (ZERO, ((ONE, pair(2 + Fraction(*little))),)), ())
        self.assertIsNone(last_jam((LEVEL, FOUR, ((FOUR, ONE),), (ZERO, ((ONE, TWO),)), ())))
        self.assertEqual(ZERO, jam_reach(more))
        less = (ROAD, FOUR, ((FOUR, ONE),), (ZERO, ((SIX, ONE),)), ((TWO, ONE, ZERO, ONE, pair(1 - Fraction(*little))),))
        self.assertIsNotNone(last_jam(less))
        self.assertIsNone(last_jam(less[:4] + ((less[4][0][:4] + (ONE,),),)))

    def test_one_red_light(self):
        self.assertEqual(((13, 3), (4, 3)), (last_jam(STREET), jam_reach(STREET)))
        self.assertEqual(((13, 3), (1, 3)), (last_jam(LIGHT), jam_reach(LIGHT)))

    def test_a_narrow_place(self):
        self.assertEqual((SIX, (4, 3)), (last_jam(NARROW), jam_reach(NARROW)))

    def test_a_leader(self):
        # From the moment 0 on those who come go behind the leader with the density 3 / 2, the flow 3 / 4.
        leader = (ROAD, FOUR, ((FOUR, ZERO),), (ZERO, ((FOUR, HALF),)), ((ONE, ZERO, HALF, FOUR, ZERO),))
        # The first one comes to him at the place 2 and the moment 2; he is off the road at 3 and 4; the jam's rear,
        # at which 1 / 2 comes, goes with 1 / 4 from the one, and is reached by the wave of -1 / 2 from the other.
        self.assertEqual((pair(Fraction(14, 3)), TWO), (last_jam(leader), jam_reach(leader)))

    def test_two_bars(self):
        for scene in SOME_SCENES:
            if len(scene[4]) == 2 and jam_reach(scene) is not None:
                alone = [jam_reach(scene[:4] + ((bar,),)) for bar in scene[4]]
                self.assertLessEqual(number(jam_reach(scene)), min(number(one) for one in alone if one is not None))
                self.assertLessEqual(max(number(last_jam(scene[:4] + ((bar,),)) or ZERO) for bar in scene[4]),
                                     number(last_jam(scene)))

    def test_two_lights_by_hand(self):
        # The second one, at 3 from 4 to 5, stops those who left the first one with the flow 1: the rear of its jam goes
        # back with 1 / 2 up to 7 / 3 at 16 / 3, where less come, then with 1 / 5, and is reached at 2 and 7.
        two = STREET[:4] + ((STOP, (THREE, FOUR, ZERO, ONE, ZERO)),)
        self.assertEqual(((7, 1), (4, 3)), (last_jam(two), jam_reach(two)))
        self.assertEqual(((FOUR, FIVE),), jammed_moments(two, THREE))
        self.assertEqual((((7, 3), (17, 6)),), jammed_places(two, (16, 3)))

    def test_a_beginning_that_is_jammed(self):
        # A full jam on the last half lets go backwards with 1 / 2.
        scene = (ROAD, FOUR, ((TWO, ZERO), (TWO, THREE)), (ZERO, ()), ())
        self.assertEqual((FOUR, TWO), (last_jam(scene), jam_reach(scene)))
        scene = (ROAD, FOUR, ((FOUR, THREE),), (ZERO, ()), ())
        self.assertEqual(((8, 1), ZERO), (last_jam(scene), jam_reach(scene)))

    def test_bars_that_do_not_bite(self):
        wide = (ROAD, FOUR, ((FOUR, HALF),), COMING, ((TWO, ONE, ZERO, TWO, ONE), (ZERO, ZERO, HALF, FOUR, HALF)))
        self.assertEqual((None, None), (last_jam(wide), jam_reach(wide)))
        # This one could bite, but fewer come.
        idle = (ROAD, FOUR, ((FOUR, HALF),), COMING, ((TWO, ONE, ZERO, TWO, HALF),))
        self.assertEqual((None, None), (last_jam(idle), jam_reach(idle)))

    def test_corners_of_scenes(self):
        for scene in SOME_SCENES:
            for place, moment in corners_in(scene):
                self.assertIn(is_jammed(scene, pair(place), pair(moment)), (True, False))


if __name__ == "__main__":
    unittest.main()
