"""Kinds compared, held against flows and numbers."""

import unittest
from fractions import Fraction

from roadwaves.compares import bare_density, never_less, parting_scene
from roadwaves.kinds import flow_at, lanes, lesser_kind, turned_kind
from roadwaves.scenes import is_scene, scene_of
from roadwaves.ways import number_at
from tests.scene_support import (FOUR, HALF, LEVEL, ONE, ROAD, SIX, THREE, TWO, ZERO, random_bars, random_beginning,
                                 random_comings, random_point)
from tests.support import flow_of, number, pair, random_fraction, random_kind, random_source

WIDE = ROAD[:2] + ((FOUR, ZERO),)
STEEP = ((ZERO, ZERO), (HALF, (5, 2)), (TWO, TWO), ((7, 2), ZERO))


def random_pairs(seed, many):
    """Pairs of kinds, some of them such that one is never less."""
    source = random_source(seed)
    found = []
    for at in range(many):
        one, other = random_kind(source, source.randint(2, 5)), random_kind(source, source.randint(2, 5))
        found.append([(one, other), (one, lesser_kind(one, other)), (lanes(one, other), other),
                      (lesser_kind(one, other), other), (one, turned_kind(one))][at % 5])
    return found


def is_less_somewhere(kind, other):
    """Whether the flow of a kind is less than the other one's at the corner of either that both have."""
    last = min(number(kind[-1][0]), number(other[-1][0]))
    densities = [number(corner[0]) for corner in kind + other if number(corner[0]) <= last]
    return any(flow_of(kind, density) < flow_of(other, density) for density in densities)


class NeverLess(unittest.TestCase):
    def test_by_hand(self):
        self.assertEqual([True, False], [never_less(WIDE, ROAD), never_less(ROAD, WIDE)])
        self.assertEqual([True, True], [never_less(ROAD, ROAD), never_less(LEVEL, LEVEL)])
        # Each one is less somewhere.
        self.assertEqual([False, False], [never_less(LEVEL, STEEP), never_less(STEEP, LEVEL)])

    def test_unlike_last_densities(self):
        # One that is greater wherever it has flow, but ends earlier.
        short = ((ZERO, ZERO), (ONE, SIX), (TWO, ZERO))
        self.assertEqual([False, False], [never_less(short, ROAD), never_less(ROAD, short)])
        long = ((ZERO, ZERO), (ONE, ONE), ((100, 1), ZERO))
        self.assertEqual([True, False], [never_less(long, ROAD), never_less(ROAD, long)])

    def test_touching(self):
        # They are the same up to the first corner, or in one corner alone.
        touching = ((ZERO, ZERO), (ONE, ONE), (TWO, (3, 4)), (THREE, ZERO))
        self.assertEqual([True, False], [never_less(touching, ROAD), never_less(ROAD, touching)])
        above = ((ZERO, ZERO), (HALF, (3, 4)), (ONE, ONE), (TWO, ONE), (FOUR, ZERO))
        self.assertEqual([True, False], [never_less(above, ROAD), never_less(ROAD, above)])
        crossing = ((ZERO, ZERO), (HALF, (3, 4)), (ONE, ONE), ((3, 2), HALF), ((7, 4), ZERO))
        self.assertEqual([False, False], [never_less(crossing, ROAD), never_less(ROAD, crossing)])
        through = ((ZERO, ZERO), (HALF, (3, 4)), ((3, 2), (5, 4)), (FOUR, ZERO))
        under = ((ZERO, ZERO), (ONE, ONE), (FOUR, ZERO))
        self.assertEqual([True, False], [never_less(through, under), never_less(under, through)])

    def test_the_same_with_no_corner_in_common_but_the_ends(self):
        above = ((ZERO, ZERO), ((2, 3), TWO), (TWO, TWO), (THREE, ZERO))
        self.assertEqual([True, False], [never_less(above, ROAD), never_less(ROAD, above)])

    def test_next_to_nothing(self):
        little = Fraction(1, 10 ** 300)
        more = ((ZERO, ZERO), (ONE, pair(1 + little)), (THREE, ZERO))
        self.assertEqual([True, False], [never_less(more, ROAD), never_less(ROAD, more)])
        longer = ((ZERO, ZERO), (ONE, ONE), (pair(3 + little), ZERO))
        self.assertEqual([True, False], [never_less(longer, ROAD), never_less(ROAD, longer)])

    def test_held_against_flows(self):
        for one, other in random_pairs(1, 100):
            for kind, than in ((one, other), (other, one)):
                self.assertIs(not is_less_somewhere(kind, than), never_less(kind, than))

    def test_made_kinds(self):
        for one, other in random_pairs(2, 20):
            least, both = lesser_kind(one, other), lanes(one, other)
            self.assertTrue(never_less(one, least) and never_less(other, least))
            self.assertTrue(never_less(both, one) and never_less(both, other))

    def test_then_numbers_are_never_less(self):
        source = random_source(3)
        for one, other in random_pairs(4, 40):
            if not never_less(one, other):
                continue
            length = random_fraction(source, 1, 4)
            bars = tuple(bar for bar in random_bars(source, other, length, 2))
            scene = (other, pair(length), random_beginning(source, other, length, 2), random_comings(source, other, 2),
                     bars)
            greater = (one,) + scene[1:]
            self.assertIs(True, is_scene(greater))
            for place, moment in [random_point(source, scene) for _ in range(4)]:
                self.assertGreaterEqual(number(number_at(greater, place, moment)),
                                        number(number_at(scene, place, moment)))


class BareDensity(unittest.TestCase):
    def test_held_against_flows(self):
        for one, other in random_pairs(5, 100):
            for kind, than in ((one, other), (other, one)):
                density = bare_density(kind, than)
                self.assertIs(density is None, never_less(kind, than))
                if density is not None:
                    self.assertLess(number(flow_at(kind, density)), number(flow_at(than, density)))

    def test_none(self):
        self.assertIsNone(bare_density(WIDE, ROAD))
        self.assertIsNone(bare_density(ROAD, ROAD))

    def test_where_the_first_one_ends(self):
        density = bare_density(ROAD, WIDE)
        self.assertTrue(1 < number(density) <= 3)
        self.assertLess(number(flow_at(ROAD, density)), number(flow_at(WIDE, density)))


class PartingScene(unittest.TestCase):
    def check(self, kind, other, length):
        found = parting_scene(kind, other, length)
        self.assertIs(found is None, never_less(kind, other))
        if found is not None:
            beginning, place, moment = found
            told = [number(number_at(scene_of(made, length, beginning, (ZERO, ()), ()), place, moment))
                    for made in (kind, other)]
            self.assertLess(told[0], told[1])

    def test_held_against_numbers(self):
        source = random_source(6)
        for one, other in random_pairs(7, 100):
            for kind, than in ((one, other), (other, one)):
                self.check(kind, than, pair(random_fraction(source, 1, 6)))

    def test_lengths(self):
        for length in ((1, 10 ** 300), (10 ** 300, 1), HALF, SIX):
            self.check(ROAD, WIDE, length)
            self.check(LEVEL, STEEP, length)
            self.check(STEEP, LEVEL, length)

    def test_waves_back_that_are_faster_than_any_car(self):
        # Where they have come to the middle from the end of the road, both kinds tell the same.
        steep = ((ZERO, ZERO), (TWO, ONE), ((9, 4), ZERO))
        self.check(steep, ((ZERO, ZERO), (TWO, ONE), ((5, 2), ZERO)), FOUR)

    def test_none(self):
        self.assertIsNone(parting_scene(ROAD, ROAD, FOUR))
        self.assertIsNone(parting_scene(WIDE, ROAD, FOUR))


if __name__ == "__main__":
    unittest.main()
