"""Two kinds of road: side by side, and the lesser one of both."""

import unittest
from fractions import Fraction
from itertools import combinations_with_replacement

from roadwaves.errors import InvalidKind, TooMany
from roadwaves.kinds import flow_at, is_kind, lanes, lesser_kind, speeds_of, toll_rate, top_flow, turned_kind
from tests.support import (WRONG, check_order, check_refused, check_wrong_values, flow_of, number, pair,
                           raised_by, random_kind, random_source)

ZERO, HALF, ONE, TWO, THREE, FOUR = (0, 1), (1, 2), (1, 1), (2, 1), (3, 1), (4, 1)
ROAD = ((ZERO, ZERO), (ONE, ONE), (THREE, ZERO))
LEVEL = ((ZERO, ZERO), (ONE, TWO), (TWO, THREE), (THREE, THREE), (FOUR, TWO), ((9, 2), ZERO))
STEEP = ((ZERO, ZERO), (HALF, (5, 2)), (TWO, TWO), ((7, 2), ZERO))


def kind_with_speeds(speeds):
    """A kind with these speeds, whole numbers in descending order, and pieces of the width 1 but for the last one."""
    flow, corners = 0, [(ZERO, ZERO)]
    for at, speed in enumerate(speeds[:-1], start=1):
        flow += speed
        corners.append(((at, 1), (flow, 1)))
    full = len(speeds) - 1 + Fraction(flow, -speeds[-1])
    return tuple(corners) + ((pair(full), ZERO),)


# Six pieces, then those with which there are eleven, twelve or more beside them.
SIX = kind_with_speeds([20, 18, 16, 14, 12, -10])
FIVE_MORE = kind_with_speeds([19, 17, 15, 13, -11])
SIX_MORE = kind_with_speeds([19, 17, 15, 13, 11, -11])
ONE_IN_COMMON = kind_with_speeds([19, 18, 17, 15, 13, -11])
ELEVEN = kind_with_speeds([31, 29, 27, 25, 23, 21, 9, 7, 5, 3, -9])
ELEVEN_MORE = kind_with_speeds([30, 28, 26, 24, 22, 20, 8, 6, 4, 2, -8])


def tangent_kind(places):
    """The kind whose pieces lie on the lines that touch the curve k * (30 - k) at these places, 0 and 30 among them.

    So the lesser one of two such kinds has the lines of both.
    """
    corners = [((0, 1), (0, 1))]
    for place, following in zip(places, places[1:]):
        density = Fraction(place + following, 2)
        corners.append((pair(density), (15 * (place + following) - place * following, 1)))
    return tuple(corners) + (((30, 1), ZERO),)


def random_pairs(seed, many):
    source = random_source(seed)
    pairs = []
    for _ in range(many):
        pairs.append((random_kind(source, source.randint(2, 5)), random_kind(source, source.randint(2, 5))))
    return pairs


SOME = list(combinations_with_replacement((ROAD, LEVEL, STEEP), 2)) + random_pairs(5, 25)


def full_of(kind):
    return number(kind[-1][0])


class SideBySide(unittest.TestCase):
    def test_by_hand(self):
        self.assertEqual(((ZERO, ZERO), (TWO, TWO), ((6, 1), ZERO)), lanes(ROAD, ROAD))
        told = ((ZERO, ZERO), (HALF, (5, 2)), ((3, 2), (7, 2)), (THREE, THREE), ((5, 1), TWO), ((13, 2), ZERO))
        self.assertEqual(told, lanes(ROAD, STEEP))
        told = ((ZERO, ZERO), (ONE, TWO), (THREE, FOUR), (FOUR, FOUR), ((6, 1), THREE), ((7, 1), TWO))
        self.assertEqual(told + (((15, 2), ZERO),), lanes(ROAD, LEVEL))

    def test_is_a_kind(self):
        for kind, other in SOME:
            both = lanes(kind, other)
            self.assertIs(True, is_kind(both))
            self.assertEqual(full_of(kind) + full_of(other), full_of(both))
            self.assertEqual(number(top_flow(kind)) + number(top_flow(other)), number(top_flow(both)))

    def test_whoever_stands_first(self):
        for kind, other in SOME:
            self.assertEqual(lanes(kind, other), lanes(other, kind))
            self.assertEqual(lanes(kind, other), lanes(other=other, kind=kind))

    def test_greatest_sum_of_flows(self):
        for kind, other in SOME:
            both = lanes(kind, other)
            # The greatest sum is had where one of both is at a corner of its own.
            corners = [number(density) for density, _ in kind]
            more_corners = [number(density) for density, _ in other]
            for part in range(20):
                density = full_of(both) * part / 19
                splits = [(own, density - own) for own in corners]
                splits += [(density - own, own) for own in more_corners]
                splits += [(density * share / 7, density * (7 - share) / 7) for share in range(8)]
                sums = []
                for first, second in splits:
                    if 0 <= first <= full_of(kind) and 0 <= second <= full_of(other):
                        sums.append(flow_of(kind, first) + flow_of(other, second))
                self.assertEqual(pair(max(sums)), flow_at(both, pair(density)))

    def test_pieces_of_both_in_order_of_slopes(self):
        for kind, other in SOME:
            speeds = sorted({number(speed) for speed in speeds_of(kind) + speeds_of(other)}, reverse=True)
            self.assertEqual(tuple(map(pair, speeds)), speeds_of(lanes(kind, other)))

    def test_pieces_of_one_slope_are_joined(self):
        self.assertEqual(3, len(lanes(ROAD, ROAD)))
        self.assertEqual(((ZERO, ZERO), (TWO, FOUR), (FOUR, (6, 1))), lanes(LEVEL, LEVEL)[:3])
        other = ((ZERO, ZERO), (ONE, ONE), (TWO, ZERO))
        told = ((ZERO, ZERO), (TWO, TWO), (FOUR, ONE), ((5, 1), ZERO))
        self.assertEqual(told, lanes(ROAD, other))
        other = ((ZERO, ZERO), (ONE, TWO), ((5, 1), ZERO))
        told = ((ZERO, ZERO), (ONE, TWO), (TWO, THREE), ((8, 1), ZERO))
        self.assertEqual([told, told], [lanes(ROAD, other), lanes(other, ROAD)])

    def test_tolls_add_up(self):
        for kind, other in SOME:
            both = lanes(kind, other)
            for speed in speeds_of(kind):
                if number(speed) <= number(speeds_of(other)[0]) and number(speed) >= number(speeds_of(other)[-1]):
                    told = number(toll_rate(kind, speed)) + number(toll_rate(other, speed))
                    self.assertEqual(told, number(toll_rate(both, speed)))

    def test_twelve_corners_are_let(self):
        both = lanes(SIX, FIVE_MORE)
        self.assertEqual((12, True), (len(both), is_kind(both)))
        both = lanes(SIX, ONE_IN_COMMON)
        self.assertEqual((12, True), (len(both), is_kind(both)))
        self.assertEqual((12, True), (len(lanes(ELEVEN, ELEVEN)), is_kind(lanes(ELEVEN, ELEVEN))))

    def test_too_many(self):
        pairs = (SIX, SIX_MORE, 13), (SIX_MORE, SIX, 13), (SIX, ELEVEN, 18), (ELEVEN, ELEVEN_MORE, 23)
        for kind, other, many in pairs:
            for found in (raised_by(lanes, kind, other), raised_by(lanes, other=other, kind=kind)):
                self.assertIs(TooMany, found.__class__)
                self.assertEqual(many, found.given)

    def test_wrong_values(self):
        for at in range(2):
            check_wrong_values(self, lanes, (ROAD, LEVEL), at, InvalidKind, WRONG + [ROAD[:2], list(ROAD)])
            check_wrong_values(self, lanes, (ELEVEN, ELEVEN_MORE), at, InvalidKind, [ROAD[:2], list(ROAD), None])
        check_order(self, lanes, (ROAD, LEVEL), (InvalidKind, InvalidKind))

    def test_large_numbers(self):
        # Each time the lower numbers get more figures.
        both = ROAD
        for at in range(20):
            small = Fraction(1, 10 ** 300 + at)
            both = lanes(both, ((ZERO, ZERO), (pair(small), pair(small)), (pair(2 * small), ZERO)))
        self.assertGreater(both[-1][0][1].bit_length(), 16000)
        self.assertIs(True, is_kind(both))
        self.assertEqual(((1, 1), (-1, 2), (-1, 1)), speeds_of(both))
        self.assertTrue(both == turned_kind(turned_kind(both)))
        self.assertEqual(ROAD, lesser_kind(ROAD, both))
        wrong = both[:2]
        check_refused(self, InvalidKind, wrong, lanes, ROAD, wrong)


class Lesser(unittest.TestCase):
    def test_by_hand(self):
        self.assertEqual(((ZERO, ZERO), ((3, 2), (3, 4)), (THREE, ZERO)), lesser_kind(ROAD, turned_kind(ROAD)))
        self.assertEqual(ROAD, lesser_kind(ROAD, LEVEL))
        # They cross at 5 / 4, where 1 + k is 8 / 3 - k / 3.
        told = ((ZERO, ZERO), (ONE, TWO), ((5, 4), (9, 4)), (TWO, TWO), ((7, 2), ZERO))
        self.assertEqual(told, lesser_kind(LEVEL, STEEP))

    def test_is_a_kind_with_the_lesser_flow(self):
        for kind, other in SOME:
            less = lesser_kind(kind, other)
            self.assertIs(True, is_kind(less))
            full = min(full_of(kind), full_of(other))
            self.assertEqual(pair(full), less[-1][0])
            for part in range(60):
                density = full * part / 59
                told = min(flow_of(kind, density), flow_of(other, density))
                self.assertEqual(pair(told), flow_at(less, pair(density)))

    def test_its_corners(self):
        for kind, other in SOME:
            for density, flow in lesser_kind(kind, other):
                flows = [flow_of(one, number(density)) for one in (kind, other)]
                self.assertEqual(number(flow), min(flows))
                of_one = any(corner == (density, flow) for corner in kind + other)
                self.assertTrue(of_one or flows[0] == flows[1])

    def test_whoever_stands_first(self):
        for kind, other in SOME:
            self.assertEqual(lesser_kind(kind, other), lesser_kind(other, kind))
            self.assertEqual(lesser_kind(kind, other), lesser_kind(other=other, kind=kind))

    def test_of_a_kind_and_itself(self):
        for kind, other in SOME:
            self.assertEqual(kind, lesser_kind(kind, kind))
            less = lesser_kind(kind, other)
            self.assertEqual(less, lesser_kind(less, kind))

    def test_that_meet_at_corners(self):
        # Both have the corner (1, 1), the one with the lesser slope ahead of it and the other one behind it.
        one = ((ZERO, ZERO), (HALF, (3, 4)), (ONE, ONE), (TWO, ZERO))
        other = ((ZERO, ZERO), (ONE, ONE), (FOUR, ZERO))
        self.assertEqual(((ZERO, ZERO), (ONE, ONE), (TWO, ZERO)), lesser_kind(one, other))
        # Both go on as one line behind a crossing that is a corner of one of them.
        one = ((ZERO, ZERO), (ONE, TWO), (THREE, ZERO))
        other = ((ZERO, ZERO), (TWO, ONE), (THREE, ZERO))
        self.assertEqual(other, lesser_kind(one, other))

    def test_no_corner_is_needless(self):
        # A corner of the first one lies within a piece of the other one, which is the lesser one ahead of it.
        one = ((ZERO, ZERO), (ONE, THREE), (TWO, TWO), (THREE, ZERO))
        other = ((ZERO, ZERO), (THREE, THREE), (FOUR, ZERO))
        self.assertEqual(((ZERO, ZERO), (TWO, TWO), (THREE, ZERO)), lesser_kind(one, other))
        # Both lie on the line 1 + k, the first one from 1 to 3, the other one from 2 to 4.
        one = ((ZERO, ZERO), (ONE, TWO), (THREE, FOUR), (FOUR, ZERO))
        other = ((ZERO, ZERO), (TWO, THREE), (FOUR, (5, 1)), ((5, 1), ZERO))
        self.assertEqual(((ZERO, ZERO), (TWO, THREE), (THREE, FOUR), (FOUR, ZERO)), lesser_kind(one, other))

    def test_twelve_corners_are_let(self):
        many = tangent_kind((0, 4, 8, 12, 16, 30))
        more = tangent_kind((0, 2, 6, 10, 14, 18, 30))
        # Eleven lines: six of the first one, seven of the other one, and two in common.
        found = lesser_kind(many, more)
        self.assertEqual((12, True), (len(found), is_kind(found)))
        self.assertEqual(tangent_kind((0, 2, 4, 6, 8, 10, 12, 14, 16, 18, 30)), found)
        self.assertEqual(found, lesser_kind(found, many))

    def test_too_many(self):
        twelve = tangent_kind((0, 2, 4, 6, 8, 10, 12, 14, 16, 18, 30))
        for places, many in (((0, 3, 30), 13), ((0, 3, 4, 5, 30), 14), ((0, 1, 3, 5, 7, 9, 11, 13, 15, 17, 30), 21)):
            other = tangent_kind(places)
            for call in (lambda: lesser_kind(twelve, other), lambda: lesser_kind(other=twelve, kind=other)):
                found = raised_by(call)
                self.assertIs(TooMany, found.__class__)
                self.assertEqual(many, found.given)

    def test_corners_beyond_the_lesser_full_density_do_not_count(self):
        twelve = tangent_kind((0, 2, 4, 6, 8, 10, 12, 14, 16, 18, 30))
        self.assertEqual(ROAD, lesser_kind(twelve, ROAD))
        self.assertEqual(ROAD, lesser_kind(ROAD, twelve))

    def test_wrong_values(self):
        for at in range(2):
            check_wrong_values(self, lesser_kind, (ROAD, LEVEL), at, InvalidKind, WRONG + [ROAD[:2], list(ROAD)])
        check_order(self, lesser_kind, (ROAD, LEVEL), (InvalidKind, InvalidKind))


if __name__ == "__main__":
    unittest.main()
