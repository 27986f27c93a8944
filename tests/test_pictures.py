"""Pictures, states, counts at places, fronts and what movers see, all held against numbers."""

import unittest
from fractions import Fraction

from roadwaves.counts import is_counts, number_of
from roadwaves.kinds import flow_at
from roadwaves.pictures import counts_at, fronts, picture, seen_from, states_at
from roadwaves.scenes import all_cars
from roadwaves.ways import number_at
from tests.scene_support import (COMING, CROWD, FIVE, FOUR, HALF, LEADER, LEVEL, LIGHT, NARROW, ONE, ROAD, SIX,
                                 SOME_SCENES, STOP, STREET, THREE, TWO, ZERO, corners_in, is_on, random_point,
                                 some_scenes, speeds_in, tracks_in)
from tests.support import number, pair, random_source

STEP = Fraction(1, 10 ** 15)


def told_at(scene, place, moment):
    """The number at a place and moment, all of them Python's own fractions."""
    return number(number_at(scene, pair(place), pair(moment)))


def moments_of(scene, source, many):
    """Moments of a scene: those of its corners, and others."""
    found = [pair(moment) for _, moment in corners_in(scene)]
    found += [pair(Fraction(source.randint(0, 60), source.randint(1, 7))) for _ in range(many)]
    return sorted(set(found), key=lambda moment: number(moment))


def places_of(scene, source, many):
    """Places of a scene: its ends, those of its corners, and others."""
    found = {place for place, _ in corners_in(scene)} | {Fraction(0), number(scene[1])}
    found |= {number(scene[1]) * Fraction(source.randint(0, 60), 60) for _ in range(many)}
    return [pair(place) for place in sorted(found)]


def within(one, other):
    """Python's own fractions between two, the ends among them; with None as the other end some behind the one."""
    if other is None:
        return [number(one) + part for part in (0, 1, 2, 1000)]
    return [number(one) + (number(other) - number(one)) * part / 4 for part in range(5)]


class CountsAt(unittest.TestCase):
    def test_held_against_numbers(self):
        source = random_source(1)
        for scene in some_scenes(2, 30):
            for place in places_of(scene, source, 2):
                counts = counts_at(scene, place)
                with self.subTest(scene=scene, place=place):
                    self.assertIs(True, is_counts(counts))
                    moments = [moment for moment, _ in counts]
                    for one, other in zip(moments, moments[1:] + [None]):
                        for moment in within(one, other):
                            self.assertEqual(told_at(scene, number(place), moment),
                                             number(number_of(counts, pair(moment))))
                    self.assertEqual(all_cars(scene), counts[-1][1])

    def test_by_hand(self):
        self.assertEqual(((ZERO, ZERO), (THREE, ZERO), (FIVE, TWO)), counts_at(LIGHT, ONE))
        self.assertEqual(((ZERO, ZERO), (TWO, TWO)), counts_at(CROWD, ZERO))
        self.assertEqual(((ZERO, ZERO), (TWO, ZERO), (SIX, TWO)), counts_at(NARROW, TWO))
        self.assertEqual(((ZERO, ZERO),), counts_at((ROAD, TWO, ((TWO, ZERO),), (ZERO, ()), ()), ONE))


class StatesAt(unittest.TestCase):
    def test_form(self):
        source = random_source(3)
        for scene in some_scenes(4, 40):
            for place in places_of(scene, source, 2):
                states = states_at(scene, place)
                self.assertIs(tuple, states.__class__)
                self.assertEqual(ZERO, states[0][0])
                self.assertIsNone(states[-1][1])
                for one, other in zip(states, states[1:]):
                    self.assertEqual(one[1], other[0])
                    self.assertLess(number(one[0]), number(one[1]))
                    self.assertNotEqual(one[2:], other[2:])
                for _, _, rate, behind, ahead in states:
                    self.assertEqual(place == ZERO, behind is None)
                    self.assertEqual(place == scene[1], ahead is None)
                    for density in (behind, ahead):
                        self.assertIn(rate, [rate if density is None else flow_at(scene[0], density)])

    def test_held_against_numbers(self):
        source = random_source(5)
        for scene in some_scenes(6, 30):
            for place in places_of(scene, source, 2):
                for begin, end, rate, behind, ahead in states_at(scene, place):
                    with self.subTest(scene=scene, place=place, begin=begin, end=end):
                        self.check_state(scene, number(place), within(begin, end)[1:-1], rate, behind, ahead)

    def check_state(self, scene, place, moments, rate, behind, ahead):
        """At moments within, but single ones, the number grows and falls as a state tells."""
        shift = Fraction(1, 10 ** 6)
        for moment in (moments[0] + shift, moments[-1] - shift):
            here = told_at(scene, place, moment)
            self.assertEqual(number(rate) * STEP, told_at(scene, place, moment + STEP) - here)
            if behind is not None:
                self.assertEqual(number(behind) * STEP, told_at(scene, place - STEP, moment) - here)
            if ahead is not None:
                self.assertEqual(number(ahead) * STEP, here - told_at(scene, place + STEP, moment))

    def test_a_light_ahead_of_the_first_car(self):
        # Nobody goes by from the moment 0 on, but from 1 on somebody stands.
        states = states_at(LIGHT[:4] + (((ONE, ZERO, ZERO, THREE, ZERO),),), ONE)
        self.assertEqual(((ZERO, ONE, ZERO, ZERO, ZERO), (ONE, THREE, ZERO, THREE, ZERO)), states[:2])

    def test_a_narrow_place_with_just_its_rate(self):
        # First just the rate comes, then more: nothing changes but the density behind.
        scene = (ROAD, FOUR, ((FOUR, HALF),), (ZERO, ((ONE, HALF), (TWO, ONE))), ((TWO, ZERO, ZERO, (8, 1), HALF),))
        states = states_at(scene, TWO)
        self.assertEqual(((ZERO, THREE, HALF, HALF, HALF), (THREE, (7, 1), HALF, TWO, HALF)), states[:2])

    def test_ends_of_the_road(self):
        self.assertEqual(((ZERO, TWO, ONE, None, ONE), (TWO, None, ZERO, None, ZERO)), states_at(CROWD, ZERO))
        self.assertEqual(((ZERO, TWO, ZERO, ZERO, None), (TWO, FOUR, ONE, ONE, None), (FOUR, None, ZERO, ZERO, None)),
                         states_at(CROWD, TWO))

    def test_fronts_that_stand(self):
        # Both densities have the top flow.
        scene = (LEVEL, FOUR, ((TWO, TWO), (TWO, THREE)), (ZERO, ((FOUR, THREE),)), ())
        self.assertEqual((ZERO, (16, 3), THREE, TWO, THREE), states_at(scene, TWO)[0])

    def test_by_hand(self):
        self.assertEqual(((ZERO, ONE, ZERO, ZERO, ZERO), (ONE, THREE, ZERO, THREE, ZERO), (THREE, FIVE, ONE, ONE, ONE),
                          (FIVE, None, ZERO, ZERO, ZERO)), states_at(LIGHT, ONE))


class Picture(unittest.TestCase):
    def test_held_against_numbers(self):
        source = random_source(7)
        for scene in some_scenes(8, 30):
            for moment in moments_of(scene, source, 3):
                stretches = picture(scene, moment)
                with self.subTest(scene=scene, moment=moment):
                    self.check_form(scene, stretches)
                    for begin, end, density, flow in stretches:
                        told = [told_at(scene, place, number(moment)) for place in within(begin, end)]
                        fall = number(density) * (number(end) - number(begin)) / 4
                        self.assertEqual([fall] * 4, [one - other for one, other in zip(told, told[1:])])

    def check_form(self, scene, stretches):
        """Stretches have to go from one end of the road to the other, with unlike densities next to each other."""
        self.assertIs(tuple, stretches.__class__)
        self.assertEqual((ZERO, scene[1]), (stretches[0][0], stretches[-1][1]))
        for one, other in zip(stretches, stretches[1:]):
            self.assertEqual(one[1], other[0])
            self.assertNotEqual(one[2], other[2])
        for begin, end, density, flow in stretches:
            self.assertLess(number(begin), number(end))
            self.assertEqual(flow, flow_at(scene[0], density))

    def test_at_the_moment_0(self):
        scene = (ROAD, FOUR, ((ONE, HALF), (ONE, HALF), (ONE, ONE), (ONE, ZERO)), (TWO, ()), (STOP,))
        self.assertEqual(((ZERO, TWO, HALF, HALF), (TWO, THREE, ONE, ONE), (THREE, FOUR, ZERO, ZERO)),
                         picture(scene, ZERO))
        for scene in SOME_SCENES:
            place, expected = Fraction(0), []
            for width, density in scene[2]:
                end = place + number(width)
                if expected and expected[-1][2] == density:
                    expected[-1] = (expected[-1][0], pair(end)) + expected[-1][2:]
                else:
                    expected.append((pair(place), pair(end), density, flow_at(scene[0], density)))
                place = end
            self.assertEqual(tuple(expected), picture(scene, ZERO))

    def test_by_hand(self):
        self.assertEqual(((ZERO, (3, 5), HALF, HALF), ((3, 5), ONE, THREE, ZERO), (ONE, TWO, ZERO, ZERO)),
                         picture(LIGHT, THREE))
        self.assertEqual(((ZERO, TWO, ZERO, ZERO),), picture(LIGHT, SIX))
        # Behind the leader they go with his speed.
        self.assertEqual(((3, 2), (3, 4)), picture(LEADER, THREE)[-2][2:])

    def test_long_after_all_are_out(self):
        for scene in SOME_SCENES:
            self.assertEqual(((ZERO, scene[1], ZERO, ZERO),), picture(scene, (10 ** 300, 1)))

    def test_the_flow_of_the_density_goes_past(self):
        source = random_source(9)
        for scene in some_scenes(10, 20):
            moment = number(random_point(source, scene)[1]) + Fraction(1, 97)
            for begin, end, density, flow in picture(scene, pair(moment)):
                place = (number(begin) + number(end)) / 2
                grown = told_at(scene, place, moment + STEP) - told_at(scene, place, moment)
                self.assertEqual(number(flow) * STEP, grown)


class Fronts(unittest.TestCase):
    def test_held_against_pictures_just_behind(self):
        source = random_source(11)
        for scene in some_scenes(12, 60):
            for moment in moments_of(scene, source, 3):
                with self.subTest(scene=scene, moment=moment):
                    self.check_fronts(scene, moment)

    def check_fronts(self, scene, moment):
        """Just behind the moment densities differ where fronts have got to, but on bars and where ends send waves."""
        now = number(moment)
        found = [(number(place), number(speed)) for place, speed in fronts(scene, moment)]
        self.assertEqual(sorted(set(found)), found)
        bars = [track for track in tracks_in(scene) if track[1] <= now < track[3]]
        sources = [begin + speed * (now - since) for begin, since, speed, _, _ in bars] + [0, number(scene[1])]
        seen = []
        for stretch in picture(scene, pair(now + STEP))[1:]:
            place = number(stretch[0])
            near = [source for source in sources if abs(source - place) < STEP * 100]
            if not near:
                seen.append(place)
        self.assertEqual([place + speed * STEP for place, speed in found], seen)

    def test_none_at_ends_and_on_bars(self):
        for scene in SOME_SCENES:
            for moment in (ZERO, ONE, TWO, THREE):
                for place, _ in fronts(scene, moment):
                    self.assertNotIn(place, (ZERO, scene[1]))
                    for begin, since, speed, end, rate in tracks_in(scene):
                        on = is_on((begin, since, speed, end, rate), number(place), number(moment))
                        self.assertFalse(on and number(moment) < end)

    def test_by_hand(self):
        self.assertEqual((((2, 5), (-1, 5)), (HALF, (-1, 2))), fronts(LIGHT, FOUR))
        # At its end the light lets go: one front backwards, one onwards.
        self.assertEqual((((3, 5), (-1, 5)), (ONE, (-1, 2)), (ONE, ONE)), fronts(LIGHT, THREE))
        # From its start on the light is a bar.
        street = STREET[:2] + (((TWO, HALF), (TWO, ZERO)),) + STREET[3:4]
        self.assertEqual(((TWO, ONE),), fronts(street + ((),), ZERO))
        self.assertEqual((), fronts(street + (((TWO, ZERO, ZERO, ONE, ZERO),),), ZERO))
        self.assertEqual((), fronts(street + (((TWO, ZERO, ZERO, ONE, FIVE),),), ZERO))
        self.assertEqual((), fronts(CROWD, ZERO))

    def test_one_front_for_each_piece(self):
        scene = (LEVEL, TWO, ((ONE, (9, 2)), (ONE, ZERO)), (ZERO, ()), ())
        expected = [(ONE, speed) for speed in ((-4, 1), (-1, 1), ZERO, ONE, TWO)]
        self.assertEqual(tuple(expected), fronts(scene, ZERO))
        turned = (LEVEL, TWO, ((ONE, ONE), (ONE, (9, 2))), (ZERO, ()), ())
        self.assertEqual(((ONE, pair(Fraction(-4, 7))),), fronts(turned, ZERO))


class SeenFrom(unittest.TestCase):
    def test_held_against_numbers(self):
        source = random_source(13)
        for scene in some_scenes(14, 40):
            length, free = number(scene[1]), speeds_in(scene[0])[0]
            for _ in range(6):
                place, moment = random_point(source, scene)
                speed = source.choice([Fraction(0), free * Fraction(source.randint(-12, 18), 6),
                                       source.choice(speeds_in(scene[0]))])
                duration = Fraction(source.randint(1, 30), 5)
                if speed:
                    room = (length - number(place)) / speed if speed > 0 else number(place) / -speed
                    duration = min(duration, room)
                if duration > 0:
                    self.check_seen(scene, place, moment, pair(speed), pair(duration))

    def test_along_bars(self):
        for scene in some_scenes(15, 20):
            for place, moment, speed, duration, _ in scene[4]:
                self.check_seen(scene, place, moment, speed, duration)

    def check_seen(self, scene, place, moment, speed, duration):
        corners = seen_from(scene, place, moment, speed, duration)
        with self.subTest(scene=scene, place=place, moment=moment, speed=speed, duration=duration):
            self.assertIs(tuple, corners.__class__)
            self.assertEqual((ZERO, duration), (corners[0][0], corners[-1][0]))
            points = [tuple(map(number, corner)) for corner in corners]
            slopes = [(b[1] - a[1]) / (b[0] - a[0]) for a, b in zip(points, points[1:])]
            self.assertTrue(all(one != other for one, other in zip(slopes, slopes[1:])))
            for (one, told), slope, (other, _) in zip(points, slopes, points[1:]):
                self.assertLess(one, other)
                for part in range(4):
                    later = one + (other - one) * part / 3
                    found = told_at(scene, number(place) + number(speed) * later, number(moment) + later)
                    self.assertEqual(told + slope * (later - one), found)

    def test_by_hand(self):
        self.assertEqual(((ZERO, ZERO), (TWO, ZERO)), seen_from(LEADER, ZERO, ZERO, HALF, TWO))
        # Standing ahead of the light, going with the free speed onto its jam, and back with twice that.
        self.assertEqual(((ZERO, ZERO), (THREE, ZERO), (FIVE, TWO), (SIX, TWO)), seen_from(LIGHT, ONE, ZERO, ZERO, SIX))
        self.assertEqual(((ZERO, ONE), ((2, 3), ONE), (ONE, ZERO)), seen_from(LIGHT, ZERO, TWO, ONE, ONE))
        self.assertEqual(((ZERO, ZERO), (ONE, ZERO)), seen_from(LIGHT, TWO, ONE, (-1, 1), ONE))
        # Past those who stand on the road, up to the last one.
        empty = (ROAD, FOUR, ((FOUR, ONE),), (ZERO, ()), ())
        self.assertEqual(((ZERO, (-4, 1)), ((4, 3), ZERO), (TWO, ZERO)), seen_from(empty, FOUR, ZERO, (-2, 1), TWO))

    def test_faster_than_any_car(self):
        # Of a density 1 / 2 one who goes with 3 leaves a car behind him for each unit of time.
        self.assertEqual(((ZERO, ZERO), (ONE, (-1, 1))), seen_from(STREET[:4] + ((),), ZERO, ZERO, THREE, ONE))
        self.assertEqual(((ZERO, (-2, 1)), (ONE, ZERO)), seen_from(STREET[:4] + ((),), FOUR, ZERO, (-3, 1), ONE))

    def test_to_the_ends_of_the_road(self):
        for speed, duration in (((4, 1), ONE), (ONE, FOUR), ((1, 10 ** 300), (4 * 10 ** 300, 1))):
            found = seen_from(STREET, ZERO, ONE, speed, duration)
            self.assertEqual(number_at(STREET, FOUR, pair(1 + number(duration))), found[-1][1])
        found = seen_from((ROAD, FOUR, ((FOUR, HALF),), COMING, ()), FOUR, ZERO, (-1, 1), FOUR)
        self.assertEqual(((ZERO, (-2, 1)), (FOUR, TWO)), found)


if __name__ == "__main__":
    unittest.main()
