"""Bars: looked at from a moment on, needless ones, lots that let cars never later, and how long one may last."""

import unittest
from fractions import Fraction
from itertools import permutations

from roadwaves.bars import bars_from, longest_bar, needless_bars, never_later, parting_view
from roadwaves.cars import last_out
from roadwaves.errors import InvalidBars, InvalidIndex, InvalidMoment, InvalidNumber
from roadwaves.kinds import toll_rate
from roadwaves.scenes import is_scene, scene_of
from roadwaves.ways import number_at, on_road, waiting_at
from tests.scene_support import (FIVE, FOUR, HALF, LEVEL, NARROW, ONE, RED, ROAD, SIX,
                                 SOME_SCENES, STOP, STREET, THREE, TWO, ZERO, random_bars, random_beginning,
                                 random_comings, random_point, random_scene, scene_parts, some_scenes, tracks_in)
from tests.support import (WRONG, check_refused, check_refused_at, number, pair, raised_by, random_fraction, random_kind,
                           random_source)


def cut(bar, parts):
    """A bar cut into so many, one behind the other."""
    place, moment, speed, duration, rate = map(number, bar)
    share = duration / parts
    return tuple(tuple(map(pair, (place + speed * share * at, moment + share * at, speed, share, rate)))
                 for at in range(parts))


def is_let(kind, length, bars):
    """Whether bars may stand together on a road."""
    return is_scene(scene_parts(kind, number(length), bars))


class BarsFrom(unittest.TestCase):
    def test_by_hand(self):
        leader = (ZERO, ONE, HALF, FOUR, (1, 4))
        for moment, expected in ((ZERO, (STOP, leader)), (HALF, ((TWO, HALF) + STOP[2:], (ZERO, HALF) + leader[2:])),
                                 (ONE, ((TWO, ZERO) + STOP[2:], (ZERO, ZERO) + leader[2:])),
                                 (TWO, ((TWO, ZERO, ZERO, ONE, ZERO), (HALF, ZERO, HALF, THREE, (1, 4)))),
                                 (THREE, ((ONE, ZERO, HALF, TWO, (1, 4)),)), (FIVE, ()), (SIX, ())):
            self.assertEqual(expected, bars_from(ROAD, FOUR, (STOP, leader), moment))
            self.assertEqual(expected[::-1], bars_from(ROAD, FOUR, (leader, STOP), moment))
        self.assertEqual((), bars_from(ROAD, FOUR, (), ONE))

    def test_at_the_end_of_one_that_another_follows(self):
        bars = (STOP, (TWO, THREE, ZERO, TWO, ONE))
        self.assertEqual(((TWO, ZERO, ZERO, TWO, ONE),), bars_from(ROAD, FOUR, bars, THREE))

    def test_places_and_moments_stay(self):
        source = random_source(1)
        for scene in some_scenes(2, 20):
            kind, length, _, _, bars = scene
            for moment in [random_point(source, scene)[1] for _ in range(3)]:
                later = bars_from(kind, length, bars, moment)
                self.assertTrue(is_let(kind, length, later))
                now = number(moment)
                tracks = {(place, begin + now, speed, end + now, rate) for place, begin, speed, end, rate in
                          tracks_in((kind, length, (), (), later))}
                expected = {(place + speed * max(now - begin, 0), max(begin, now), speed, end, rate)
                            for place, begin, speed, end, rate in tracks_in(scene) if end > now}
                self.assertEqual(expected, tracks)

    def test_wrong_bars(self):
        for bars, index in (((STOP, STOP), 1), ([], None), ((STOP, RED, (ONE, ZERO, ZERO, SIX, ZERO)), 2), ((RED[:4],), 0),
                            ((STOP, (FIVE, ONE, ZERO, ONE, ONE)), 1)):
            check_refused_at(self, InvalidBars, index, bars_from, ROAD, FOUR, bars, ONE)
            check_refused_at(self, InvalidBars, index, needless_bars, ROAD, FOUR, bars)
            for call in (never_later, parting_view):
                check_refused_at(self, InvalidBars, index, call, ROAD, FOUR, bars, ())
                check_refused_at(self, InvalidBars, index, call, ROAD, FOUR, (STOP,), bars)
                check_refused_at(self, InvalidBars, index, call, ROAD, FOUR, bars, None)
                check_refused_at(self, InvalidBars, index, call, other=bars, bars=(), length=FOUR, kind=ROAD)

    def test_wrong_moments(self):
        for value in WRONG + [(-1, 1)]:
            check_refused(self, InvalidMoment, value, bars_from, ROAD, FOUR, (STOP,), value)


class Needless(unittest.TestCase):
    def test_by_hand(self):
        slow = STOP[:4] + (ONE,)
        found = [needless_bars(ROAD, FOUR, bars) for bars in ((), (STOP,), (slow,), (RED, slow), (slow, RED))]
        self.assertEqual([(), (), (0,), (1,), (0,)], found)
        self.assertEqual((0, 1), needless_bars(ROAD, FOUR, (slow, RED[:4] + (TWO,))))

    def test_just_the_toll_of_the_speed(self):
        source = random_source(3)
        for at in range(40):
            kind = [ROAD, LEVEL, random_kind(source, 4)][at % 3]
            length = random_fraction(source, 2, 6)
            for bar in random_bars(source, kind, length, 2):
                rate = number(toll_rate(kind, bar[2]))
                for change, expected in ((Fraction(0), (0,)), (Fraction(1, 10 ** 300), (0,)),
                                         (-Fraction(1, 10 ** 300), ())):
                    told = bar[:4] + (pair(rate + change),)
                    self.assertEqual(expected, needless_bars(kind, pair(length), (told,)))

    def test_without_it_all_numbers_stay(self):
        source = random_source(4)
        for at in range(60):
            scene = random_scene(source, 1 + at % 3)
            kind, length, beginning, comings, bars = scene
            widened = tuple(bar if which % 2 else bar[:4] + (toll_rate(kind, bar[2]),) for which, bar in enumerate(bars))
            needless = needless_bars(kind, length, widened)
            self.assertEqual(tuple(sorted(needless)), needless)
            rest = tuple(bar for which, bar in enumerate(widened) if which not in needless)
            self.assertEqual((), needless_bars(kind, length, rest))
            for place, moment in [random_point(source, scene) for _ in range(4)]:
                self.assertEqual(number_at(scene[:4] + (rest,), place, moment),
                                 number_at(scene[:4] + (widened,), place, moment))


class NeverLater(unittest.TestCase):
    def check(self, expected, bars, other, kind=ROAD, length=FOUR):
        """Whether it is as expected, with a view that shows it or with none."""
        found = never_later(kind, length, bars, other)
        self.assertIs(expected, found)
        view = parting_view(kind, length, bars, other)
        if expected:
            self.assertIsNone(view)
        else:
            self.check_view(kind, length, bars, other, view)

    def check_view(self, kind, length, bars, other, view):
        moment, beginning, comings, place, later = view
        self.assertIs(tuple, view.__class__)
        told = []
        for lot in (bars, other):
            scene = scene_of(kind, length, beginning, comings, bars_from(kind, length, lot, moment))
            told.append(number(number_at(scene, place, later)))
        self.assertLess(told[0], told[1])

    def test_the_same_lot(self):
        for scene in SOME_SCENES:
            for bars in permutations(scene[4]):
                self.check(True, bars, scene[4], scene[0], scene[1])

    def test_a_part_of_a_lot(self):
        for scene in SOME_SCENES:
            bars = scene[4]
            for at, bar in enumerate(bars):
                rest = bars[:at] + bars[at + 1:]
                self.check(True, rest, bars, scene[0], scene[1])
                self.check(at in needless_bars(scene[0], scene[1], bars), bars, rest, scene[0], scene[1])

    def test_none(self):
        self.check(True, (), ())
        self.check(True, (), (STOP,))
        self.check(False, (STOP,), ())
        self.check(True, (STOP[:4] + (ONE,),), ())

    def test_rates(self):
        # With a greater rate nobody is later.
        wide, slow = STOP[:4] + (HALF,), STOP[:4] + ((1, 4),)
        self.check(True, (wide,), (slow,))
        self.check(False, (slow,), (wide,))
        self.check(True, (wide,), (STOP,))
        self.check(False, (STOP,), (STOP[:4] + (pair(Fraction(1, 10 ** 9)),),))
        self.check(False, (wide,), (STOP[:4] + (ONE,),))
        self.check(True, (STOP[:4] + (TWO,),), (STOP[:4] + (ONE,),))

    def test_bars_cut_in_two(self):
        for bar in (STOP, (ZERO, ONE, HALF, SIX, (1, 4)), (ONE, ZERO, (1, 3), SIX, ZERO)):
            for parts in (2, 3, 6):
                self.check(True, cut(bar, parts), (bar,))
                self.check(True, (bar,), cut(bar, parts))
                self.check(True, (bar,), cut(bar, parts)[::-1])
                self.check(True, cut(bar, parts), cut(bar, 7 - parts) if parts != 6 else (bar,))

    def test_one_piece_less_or_wider(self):
        for bar in (STOP, (ZERO, ONE, HALF, SIX, (1, 4))):
            for at in range(3):
                pieces = cut(bar, 3)
                rest = pieces[:at] + pieces[at + 1:]
                self.check(False, (bar,), rest)
                self.check(True, rest, (bar,))
                wider = pieces[:at] + (pieces[at][:4] + (HALF,),) + pieces[at + 1:]
                self.check(False, (bar,), wider)
                self.check(True, wider, (bar,))

    def test_longer_and_shorter(self):
        for shift, duration in ((ONE, ONE), (ONE, (3, 2)), (TWO, ONE), ((3, 2), HALF)):
            shorter = (TWO, shift, ZERO, duration, ZERO)
            self.check(True, (shorter,), (STOP,))
            self.check(False, (STOP,), (shorter,))
        self.check(False, (STOP,), ((TWO, TWO, ZERO, TWO, ZERO),))
        self.check(False, ((TWO, TWO, ZERO, TWO, ZERO),), (STOP,))
        little = pair(2 - Fraction(1, 10 ** 6))
        self.check(False, (STOP,), ((TWO, ONE, ZERO, little, ZERO),))

    def test_lots_that_lie_apart(self):
        for other in (RED, (TWO, FOUR, ZERO, TWO, ZERO), (TWO, (1000, 1), ZERO, TWO, ZERO), (ZERO, ZERO, HALF, SIX, ZERO), (FOUR, ONE, ZERO, TWO, ZERO)):
            self.check(False, (STOP,), (other,))
            self.check(False, (other,), (STOP,))

    def test_bars_that_cross(self):
        leaders = ((ZERO, ZERO, HALF, SIX, ZERO), (ONE, ZERO, (1, 3), SIX, ZERO), (TWO, ONE, ZERO, SIX, ZERO))
        for one in leaders:
            for other in leaders:
                self.check(one == other, (one,), (other,))

    def test_one_that_others_cross_at_each_moment_that_comes_to_mind(self):
        # Several lie across the first bar, at even parts of its time.
        bar = (TWO, ZERO, ZERO, (8, 1), ZERO)
        for parts in range(2, 9):
            others = []
            for at in range(1, min(parts, 7)):
                moment = Fraction(8 * at, parts)
                begin = (pair(2 - Fraction(1, 8)), pair(moment - Fraction(1, 4)), HALF, HALF, ZERO)
                if is_let(ROAD, FOUR, tuple(others) + (begin,)):
                    others.append(begin)
            self.check(False, (bar,), tuple(others))
            self.check(False, tuple(others), (bar,))

    def test_at_the_ends_of_the_road(self):
        for place in (ZERO, FOUR):
            bar = (place, ONE, ZERO, TWO, HALF)
            self.check(False, (bar,), ())
            self.check(False, (bar,), ((place, ONE, ZERO, ONE, HALF),))
            self.check(False, (bar,), ((place, ONE, ZERO, TWO, (3, 4)),))
            self.check(True, (bar,), ((place, ZERO, ZERO, SIX, (1, 4)),))
            self.check(False, (bar, RED), (bar,))
        self.check(False, ((ZERO, ONE, HALF, (8, 1), ZERO),), ((ZERO, ONE, HALF, FIVE, ZERO),))

    def test_a_top_flow_above_the_last_density(self):
        kind = ((ZERO, ZERO), (ONE, FIVE), (TWO, ZERO))
        for place in (ZERO, TWO, FOUR):
            self.check(False, ((place, ONE, ZERO, TWO, THREE),), (), kind)
            self.check(False, ((place, ONE, ZERO, TWO, THREE),), ((place, ONE, ZERO, TWO, FOUR),), kind)

    def test_random_lots(self):
        source = random_source(5)
        for at in range(80):
            kind = [ROAD, LEVEL, random_kind(source, 4)][at % 3]
            length = random_fraction(source, 2, 6)
            bars = random_bars(source, kind, length, source.randint(1, 3))
            other = random_bars(source, kind, length, source.randint(0, 3))
            mixed = bars[:1] + tuple(bar for bar in other if is_let(kind, pair(length), bars[:1] + (bar,)))
            if not is_let(kind, pair(length), mixed):
                mixed = bars[:1]
            for one, two in ((bars, other), (other, bars), (bars, mixed), (mixed, bars), (bars[1:], bars)):
                self.check(never_later(kind, pair(length), one, two), one, two, kind, pair(length))

    def test_never_later_is_so_for_numbers(self):
        source = random_source(6)
        for at in range(40):
            kind = random_kind(source, 3)
            length = random_fraction(source, 2, 5)
            bars = random_bars(source, kind, length, 3)
            wider = tuple(bar[:4] + (pair(number(bar[4]) * source.randint(1, 2)),) for bar in bars[1:])
            self.assertIs(True, never_later(kind, pair(length), wider, bars))
            scene = (kind, pair(length), random_beginning(source, kind, length, 2), random_comings(source, kind, 2), bars)
            for place, moment in [random_point(source, scene) for _ in range(4)]:
                self.assertGreaterEqual(number(number_at(scene[:4] + (wider,), place, moment)),
                                        number(number_at(scene, place, moment)))


class LongestBar(unittest.TestCase):
    def lasting(self, scene, index, duration):
        """The scene with another duration of a bar; without it for 0."""
        bar = scene[4][index]
        changed = (bar[:3] + (pair(duration), bar[4]),) if duration else ()
        return scene[:4] + (scene[4][:index] + changed + scene[4][index + 1:],)

    def is_out(self, scene, last):
        return number(last_out(scene)) <= number(last)

    def test_held_against_scenes(self):
        source = random_source(7)
        for scene in some_scenes(8, 60):
            for index, bar in enumerate(scene[4]):
                many = source.choice([1, 2, 3, 10, 997])
                longest = number(last_out(scene))
                without = number(last_out(self.lasting(scene, index, 0)))
                for last in (longest, without, (longest + without) / 2, without - Fraction(1, 7)):
                    if last >= 0:
                        with self.subTest(scene=scene, index=index, last=last, many=many):
                            self.check_longest(scene, index, pair(last), many)

    def check_longest(self, scene, index, last, many):
        found = longest_bar(scene, index, last, many)
        if found is None:
            self.assertFalse(self.is_out(self.lasting(scene, index, 0), last))
            return
        duration = number(scene[4][index][3])
        self.assertLessEqual(Fraction(found, many), duration)
        self.assertTrue(self.is_out(self.lasting(scene, index, Fraction(found, many)), last))
        more = Fraction(found + 1, many)
        self.assertTrue(more > duration or not self.is_out(self.lasting(scene, index, more), last))

    def test_by_hand(self):
        self.assertEqual([20, 2, 2000000], [longest_bar(STREET, 0, (10, 1), many) for many in (10, 1, 1000000)])
        self.assertIsNone(longest_bar(STREET, 0, (9, 1), 10))
        # Two who wait come to the narrow place from the moment 2 on, and are out at 6 at the least.
        self.assertEqual([8, 8, None, 2], [longest_bar(NARROW, 0, moment, 1) for moment in
                                           ((8, 1), (9, 1), FIVE, SIX)])

    def test_just_enough_and_just_not_enough(self):
        # Red from 1 on, at the place 2 of a street on which one comes for each unit of time; the last one leaves later
        # as long as it is red.
        scene = (ROAD, FOUR, ((FOUR, ONE),), (ZERO, ((SIX, ONE),)), (STOP,))
        little = Fraction(1, 10 ** 50)
        for parts in range(0, 9):
            last = Fraction(10) + Fraction(parts, 4)
            for change, expected in ((Fraction(0), min(parts, 8)), (little, min(parts, 8)), (-little, parts - 1)):
                found = longest_bar(scene, 0, pair(last + change), 4)
                self.assertEqual(None if expected < 0 else expected, found)

    def test_not_beyond_its_own_duration(self):
        scene = STREET[:4] + ((STOP[:3] + ((7, 3), ZERO),),)
        found = [longest_bar(scene, 0, (1000, 1), many) for many in (1, 2, 3, 100, 1000000)]
        self.assertEqual([2, 4, 7, 233, 2333333], found)
        short = STREET[:4] + ((STOP[:3] + ((1, 3), ZERO),),)
        self.assertEqual([0, 0, 1], [longest_bar(short, 0, (1000, 1), many) for many in (1, 2, 3)])

    def test_others_stay(self):
        two = STREET[:4] + ((STOP, (THREE, ONE, ZERO, TWO, HALF)),)
        for index in (0, 1):
            for last in (FOUR, (10, 1), (21, 2), (12, 1)):
                self.check_longest(two, index, last, 7)

    def test_wrong_values(self):
        for index in [value for value in WRONG if value.__class__ is not int] + [-1, 1, 10 ** 390, ZERO]:
            check_refused(self, InvalidIndex, index, longest_bar, STREET, index, (10, 1), 10)
        check_refused(self, InvalidIndex, 0, longest_bar, STREET[:4] + ((),), 0, (10, 1), 10)
        self.assertIsNone(raised_by(longest_bar, STREET, 0, (10, 1), 1000000))
        for many in [value for value in WRONG if value.__class__ is not int] + [0, -1, 1000001, 10 ** 390, ONE]:
            check_refused(self, InvalidNumber, many, longest_bar, STREET, 0, (10, 1), many)

    def test_nobody_is_left(self):
        for scene in SOME_SCENES:
            for index in range(len(scene[4])):
                last = last_out(scene)
                found = longest_bar(scene, index, last, 5)
                kept = self.lasting(scene, index, Fraction(found, 5))
                self.assertEqual((ZERO, ZERO), (waiting_at(kept, last), on_road(kept, last)))


if __name__ == "__main__":
    unittest.main()
