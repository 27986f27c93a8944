"""Scenes: each part right and wrong, how cars stand and come, and scenes begun anew."""

import unittest
from fractions import Fraction

from roadwaves.errors import InvalidBars, InvalidBeginning, InvalidComings, TooMany
from roadwaves.pictures import picture
from roadwaves.scenes import all_cars, begun_anew, comings_number, is_scene, scene_of, start_number
from roadwaves.ways import number_at, waiting_at
from tests.scene_support import (COMING, EMPTY, FIVE, FOUR, HALF, LEADER, LEVEL, LIGHT, NARROW, ONE, RED, ROAD, SIX,
                                 STOP, STREET, THREE, TWO, ZERO, arrivals_in, on_line, random_comings,
                                 some_scenes, starts_in, tracks_in)
from tests.support import (BELOW_ZERO, WRONG, check_refused_at, nested, number, pair, raised_by,
                           random_source)

TINY = (1, 10 ** 300)


def changed(row, at, value):
    """A tuple with another element in one place."""
    return row[:at] + (value,) + row[at + 1:]


class Scene(unittest.TestCase):
    def test_scenes(self):
        for scene in some_scenes(3, 40):
            self.assertIs(True, is_scene(scene))
            self.assertEqual(scene, scene_of(*scene))

    def test_no_scenes(self):
        for value in WRONG + [nested(14), STREET[:4], STREET[1:], STREET + (ZERO,), list(STREET), (STREET,)]:
            self.assertIs(False, is_scene(value))
        for at in range(5):
            self.assertIs(False, is_scene(changed(STREET, at, list(STREET[at]))))
            for value in WRONG:
                if at < 4 or value != ():
                    self.assertIs(False, is_scene(changed(STREET, at, value)))

    def test_scene_has_its_parts(self):
        found = scene_of(bars=(), comings=(ZERO, ()), beginning=EMPTY, length=TWO, kind=ROAD)
        self.assertEqual((ROAD, TWO, EMPTY, (ZERO, ()), ()), found)

    def test_the_first_wrong_part(self):
        wrong = (ROAD[:2], ZERO, ((TWO, FOUR),), (ZERO, (ONE,)), (RED[:4],))
        for at in range(5):
            found = raised_by(scene_of, *STREET[:at], *wrong[at:])
            names = ("InvalidKind", "InvalidAmount", "InvalidBeginning", "InvalidComings", "InvalidBars")
            self.assertEqual(names[at], found.__class__.__name__)


class Beginning(unittest.TestCase):
    def refused(self, index, beginning, length=FOUR):
        check_refused_at(self, InvalidBeginning, index, scene_of, ROAD, length, beginning, COMING, ())
        self.assertIs(False, is_scene((ROAD, length, beginning, COMING, ())))

    def test_no_tuple_and_none_at_all(self):
        for value in (None, [], [(FOUR, HALF)], 3, "beginning", (), {}, {(FOUR, HALF)}):
            self.refused(None, value)

    def test_amounts_that_do_not_add_up(self):
        for beginning in (((THREE, HALF),), ((FIVE, HALF),), ((TWO, HALF), (ONE, ZERO)), ((TWO, HALF),) * 3,
                          ((FOUR, HALF), (TINY, HALF)), ((pair(4 - Fraction(*TINY)), HALF),)):
            self.refused(None, beginning)
        self.assertIs(True, is_scene((ROAD, FOUR, ((pair(4 - Fraction(*TINY)), HALF), (TINY, ONE)), COMING, ())))

    def test_wrong_pieces(self):
        good = ((ONE, HALF), (ONE, THREE), (TWO, ZERO))
        for at in range(3):
            for piece in (ONE, (ONE,), (ONE, ONE, ONE), [ONE, ONE], None, (), (ZERO, ONE), ((-1, 1), ONE), (ONE, FOUR),
                          (ONE, (-1, 2)), (ONE, pair(3 + Fraction(*TINY))), ((2, 2), ONE), (ONE, (2, 4)),
                          (1, ONE), (ONE, 1), (True, ONE), (ONE, (True, 1)), (ONE, None)):
                self.refused(at, changed(good, at, piece))
            for value in WRONG:
                self.refused(at, changed(good, at, value))
                self.refused(at, changed(good, at, (value, ONE)))
                self.refused(at, changed(good, at, (ONE, value)))

    def test_the_first_wrong_piece(self):
        self.refused(1, ((ONE, HALF), (ZERO, ONE), (ONE, FOUR), None))
        # Amounts that do not add up are told only of right pieces.
        self.refused(2, ((FOUR, HALF), (FOUR, HALF), (FOUR, FOUR)))

    def test_forty_and_forty_one_pieces(self):
        piece = ((1, 10), HALF)
        self.assertIs(True, is_scene((ROAD, FOUR, (piece,) * 40, COMING, ())))
        self.refused(40, (piece,) * 41, (41, 10))
        self.refused(40, (piece,) * 41, ONE)
        self.refused(40, (piece,) * 40 + (None,))
        self.refused(40, (piece,) * 60, SIX)
        self.refused(39, (piece,) * 39 + (None,) * 3)

    def test_full_and_free(self):
        for density in (ZERO, THREE, ONE, TINY):
            self.assertIs(True, is_scene((ROAD, FOUR, ((FOUR, density),), COMING, ())))


class Comings(unittest.TestCase):
    def refused(self, index, comings):
        check_refused_at(self, InvalidComings, index, scene_of, ROAD, TWO, EMPTY, comings, ())
        self.assertIs(False, is_scene((ROAD, TWO, EMPTY, comings, ())))

    def test_no_such_pair(self):
        for value in (None, [], (), (ZERO,), (ZERO, (), ()), [ZERO, ()], (ZERO, []), (ZERO, None), ((), ZERO), ZERO,
                      ((-1, 1), ()), (pair(-Fraction(*TINY)), ()), ((0, 2), ()), (0, ()), (False, ()), (None, ())):
            self.refused(None, value)
        for value in WRONG:
            self.refused(None, value)
            self.refused(None, (value, ((ONE, ONE),)))
            if not isinstance(value, tuple):
                self.refused(None, (ZERO, value))
        for value in BELOW_ZERO:
            self.refused(None, (value, ()))
        # What waits is told ahead of the pieces.
        self.refused(None, ((-1, 1), (None,)))

    def test_wrong_pieces(self):
        good = ((ONE, HALF), (ONE, THREE), (TWO, ZERO))
        for at in range(3):
            for piece in ((ZERO, ONE), ((-1, 1), ONE), (ONE, (-1, 2)), (ONE,), (ONE, ONE, ONE), [ONE, ONE], ONE):
                self.refused(at, (ONE, changed(good, at, piece)))
            for value in WRONG:
                self.refused(at, (ONE, changed(good, at, value)))
                self.refused(at, (ONE, changed(good, at, (value, ONE))))
                self.refused(at, (ONE, changed(good, at, (ONE, value))))

    def test_the_first_wrong_piece(self):
        self.refused(1, (ONE, ((ONE, HALF), (ZERO, ONE), None)))

    def test_forty_and_forty_one_pieces(self):
        self.assertIs(True, is_scene((ROAD, TWO, EMPTY, (ZERO, ((ONE, HALF),) * 40), ())))
        self.refused(40, (ZERO, ((ONE, HALF),) * 41))
        self.refused(40, (ZERO, ((ONE, HALF),) * 50))
        self.refused(39, (ZERO, ((ONE, HALF),) * 39 + (None,) * 3))

    def test_right_ones(self):
        for comings in ((ZERO, ()), (TINY, ()), ((10 ** 390, 1), ((TINY, (10 ** 390, 1)), (ONE, ZERO)))):
            self.assertIs(True, is_scene((ROAD, TWO, EMPTY, comings, ())))


class Bars(unittest.TestCase):
    def refused(self, index, bars, length=FOUR):
        check_refused_at(self, InvalidBars, index, scene_of, ROAD, length, ((length, HALF),), COMING, bars)
        self.assertIs(False, is_scene((ROAD, length, ((length, HALF),), COMING, bars)))

    def accepted(self, bars, length=FOUR):
        self.assertIsNone(raised_by(scene_of, ROAD, length, ((length, HALF),), COMING, bars))
        self.assertIs(True, is_scene((ROAD, length, ((length, HALF),), COMING, bars)))

    def test_no_tuple(self):
        for value in (None, [], [STOP], 3, "bars", {}, {STOP}):
            self.refused(None, value)
        self.accepted(())

    def test_wrong_bars(self):
        good = ((ONE, ZERO, ZERO, SIX, ZERO), STOP, (THREE, ZERO, ZERO, SIX, ONE))
        for at in range(3):
            for bar in (STOP[:4], STOP + (ONE,), list(STOP), None, (), ONE):
                self.refused(at, changed(good, at, bar))
            for part in range(5):
                for value in WRONG + BELOW_ZERO:
                    self.refused(at, changed(good, at, changed(STOP, part, value)))

    def test_each_part(self):
        for bar in ((FIVE, ONE, ZERO, TWO, ZERO), (pair(4 + Fraction(*TINY)), ONE, ZERO, TWO, ZERO),
                    (TWO, ONE, ONE, TWO, ZERO), (TWO, ONE, TWO, ONE, ZERO), (TWO, ONE, ZERO, ZERO, ZERO)):
            self.refused(0, (bar,))
        for bar in ((FOUR, ONE, ZERO, TWO, ZERO), (ZERO, ZERO, ZERO, TINY, ZERO), (TWO, TINY, ZERO, TWO, (9, 1)),
                    (TWO, ONE, pair(1 - Fraction(*TINY)), TWO, ONE)):
            self.accepted((bar,))

    def test_the_end_is_a_place_of_the_road(self):
        self.accepted(((ZERO, ONE, HALF, (8, 1), ZERO),))
        self.accepted(((THREE, ONE, HALF, TWO, ZERO),))
        self.refused(0, ((ZERO, ONE, HALF, pair(8 + Fraction(*TINY)), ZERO),))
        self.refused(0, ((FOUR, ONE, TINY, TINY, ZERO),))
        self.refused(1, (STOP, (THREE, ONE, HALF, THREE, ZERO)))

    def test_six_and_seven(self):
        six = tuple(((at, 1), ZERO, ZERO, ONE, ZERO) for at in range(5)) + ((HALF, ZERO, ZERO, ONE, ZERO),)
        self.accepted(six)
        self.refused(6, six + ((HALF, TWO, ZERO, ONE, ZERO),))
        self.refused(6, six + (None,))
        self.refused(6, six + six)
        self.refused(5, six[:5] + six[:2])

    def test_crossing(self):
        leader = (ZERO, ZERO, HALF, SIX, ZERO)
        self.refused(1, (leader, (TWO, THREE, ZERO, TWO, ZERO)))
        self.refused(1, (leader, (ONE, ONE, ZERO, TWO, ZERO)))
        self.refused(1, (leader, (ZERO, ONE, (3, 4), FOUR, ZERO)))
        self.accepted((leader, (ONE, THREE, ZERO, TWO, ZERO), (TWO, ONE, ZERO, TWO, ZERO)))
        self.accepted((leader, (ZERO, ONE, (1, 4), FOUR, ZERO)))

    def test_touching_within(self):
        leader = (ZERO, ZERO, HALF, FOUR, ZERO)
        # It begins on the leader's line, or ends there, or reaches the leader's start or end from the side.
        self.refused(1, (leader, (ONE, TWO, ZERO, TWO, ZERO)))
        self.refused(1, (leader, (ONE, ONE, ZERO, ONE, ZERO)))
        self.refused(1, (leader, (TWO, THREE, ZERO, TWO, ZERO)))
        self.refused(1, (leader, (ONE, TWO, HALF, ONE, ZERO)))
        self.refused(1, ((ONE, ZERO, ZERO, FOUR, ZERO), (ZERO, ZERO, HALF, TWO, ZERO)))

    def test_the_same_line(self):
        self.refused(1, (STOP, STOP))
        self.refused(1, (STOP, (TWO, TWO, ZERO, TWO, ONE)))
        self.refused(1, (STOP, (TWO, ZERO, ZERO, (3, 2), ONE)))
        self.refused(1, (STOP, (TWO, ZERO, ZERO, SIX, ONE)))
        self.refused(1, ((ZERO, ZERO, HALF, FOUR, ZERO), (ONE, TWO, HALF, FOUR, ZERO)))
        self.accepted((STOP, (TWO, FOUR, ZERO, TWO, ONE)))
        self.accepted((STOP, (TWO, HALF, ZERO, TINY, ONE)))

    def test_one_behind_the_other(self):
        self.accepted((STOP, (TWO, THREE, ZERO, TWO, ONE)))
        self.accepted(((TWO, THREE, ZERO, TWO, ONE), STOP))
        self.accepted((STOP, (TWO, THREE, HALF, TWO, ONE), (TWO, ZERO, ZERO, ONE, ONE)))
        self.accepted(((ZERO, ZERO, HALF, FOUR, ZERO), (TWO, FOUR, ZERO, ONE, ZERO)))
        # Two that begin where one ends, and two that end where one begins.
        self.refused(2, (STOP, (TWO, THREE, ZERO, TWO, ONE), (TWO, THREE, HALF, TWO, ONE)))
        self.refused(1, ((TWO, THREE, ZERO, TWO, ONE), (TWO, THREE, HALF, TWO, ONE)))
        self.refused(2, ((TWO, THREE, ZERO, TWO, ONE), STOP, (ONE, ONE, HALF, TWO, ONE)))
        self.refused(1, (STOP, (ONE, ONE, HALF, TWO, ONE)))

    def test_the_same_place_and_moment_at_the_start(self):
        self.refused(1, ((ONE, ONE, ZERO, ONE, ZERO), (ONE, ONE, HALF, ONE, ZERO)))
        self.accepted(((ONE, ONE, ZERO, ONE, ZERO), (TWO, ONE, HALF, ONE, ZERO)))

    def test_the_first_wrong_one(self):
        self.refused(2, (STOP, (ONE, ZERO, ZERO, SIX, ZERO), STOP[:4], STOP))
        self.refused(1, (STOP, STOP, STOP[:4]))

    def test_close_by(self):
        for gap, right in ((TINY, True), (ZERO, False)):
            place = pair(2 + Fraction(*gap))
            found = is_scene((ROAD, FOUR, ((FOUR, HALF),), COMING, (STOP, (place, ONE, ZERO, TWO, ZERO))))
            self.assertIs(right, found)


class Numbers(unittest.TestCase):
    def test_start_number(self):
        self.assertEqual([ZERO, (-1, 2), (-2, 1)], [start_number(STREET, place) for place in (ZERO, ONE, FOUR)])
        source = random_source(8)
        for scene in some_scenes(11, 12):
            for part in [Fraction(source.randint(0, 60), 60) for _ in range(6)] + [Fraction(0), Fraction(1)]:
                place = number(scene[1]) * part
                self.assertEqual(pair(on_line(starts_in(scene), place)), start_number(scene, pair(place)))
                self.assertEqual(start_number(scene, pair(place)), number_at(scene, pair(place), ZERO))

    def test_comings_number(self):
        found = [comings_number(STREET, moment) for moment in (ZERO, ONE, SIX, (7, 1), (10 ** 390, 1))]
        self.assertEqual([ZERO, HALF, THREE, THREE, THREE], found)
        self.assertEqual([TWO, TWO], [comings_number(NARROW, moment) for moment in (ZERO, SIX)])
        source = random_source(9)
        for _ in range(20):
            scene = (ROAD, TWO, EMPTY, random_comings(source, ROAD, 3), ())
            for moment in [Fraction(source.randint(0, 60), 7) for _ in range(5)] + [Fraction(0)]:
                self.assertEqual(pair(on_line(arrivals_in(scene), moment)), comings_number(scene, pair(moment)))

    def test_all_cars(self):
        found = [all_cars(scene) for scene in (LIGHT, LEADER, STREET, NARROW)]
        self.assertEqual([TWO, TWO, THREE, TWO], found)
        self.assertEqual(ZERO, all_cars((ROAD, TWO, ((TWO, THREE),), (ZERO, ()), ())))
        for scene in some_scenes(12, 12):
            self.assertEqual(pair(arrivals_in(scene)[-1][1]), all_cars(scene))
            self.assertEqual(all_cars(scene), comings_number(scene, (1000, 1)))


class BegunAnew(unittest.TestCase):
    def moments(self, scene):
        """Moments within and at the ends of pieces of comings and of bars, and others."""
        found = {Fraction(0), Fraction(1, 7), Fraction(13, 3), Fraction(40)}
        ends = [moment for moment, _ in arrivals_in(scene)]
        for _, begin, _, end, _ in tracks_in(scene):
            ends += [begin, end]
        for one, other in zip(sorted(ends), sorted(ends)[1:]):
            found |= {one, other, (one + other) / 2}
        return [pair(moment) for moment in sorted(found)]

    def test_parts(self):
        for scene in some_scenes(21, 16):
            for moment in self.moments(scene):
                kind, length, beginning, comings, bars = begun_anew(scene, moment)
                self.assertEqual(scene[:2], (kind, length))
                drawn = tuple((pair(number(to) - number(at)), density) for at, to, density, _ in picture(scene, moment))
                self.assertEqual(drawn, beginning)
                self.assertTrue(all(one[1] != other[1] for one, other in zip(beginning, beginning[1:])))
                self.assertEqual(waiting_at(scene, moment), comings[0])
                self.check_comings(scene, moment, comings[1])
                self.check_bars(scene, moment, bars)

    def check_comings(self, scene, moment, pieces):
        begin, expected = Fraction(0), []
        for duration, rate in scene[3][1]:
            end = begin + number(duration)
            if end > number(moment):
                expected.append((pair(end - max(begin, number(moment))), rate))
            begin = end
        self.assertEqual(tuple(expected), pieces)

    def check_bars(self, scene, moment, bars):
        now, expected = number(moment), []
        for (place, begin, speed, end, rate), bar in zip(tracks_in(scene), scene[4]):
            if end > now and begin >= now:
                expected.append((bar[0], pair(begin - now)) + bar[2:])
            elif end > now:
                expected.append((pair(place + speed * (now - begin)), ZERO, bar[2], pair(end - now), bar[4]))
        self.assertEqual(tuple(expected), bars)

    def test_numbers(self):
        source = random_source(22)
        for scene in some_scenes(23, 16):
            for moment in self.moments(scene):
                later = begun_anew(scene, moment)
                self.assertIs(True, is_scene(later))
                for _ in range(3):
                    place = pair(number(scene[1]) * Fraction(source.randint(0, 12), 12))
                    wait = Fraction(source.randint(0, 30), source.randint(2, 7))
                    told = number(number_at(scene, place, pair(number(moment) + wait)))
                    expected = pair(told - number(number_at(scene, ZERO, moment)))
                    self.assertEqual(expected, number_at(later, place, pair(wait)))

    def test_twice(self):
        for scene in some_scenes(24, 8):
            twice = begun_anew(begun_anew(scene, (3, 2)), (5, 3))
            self.assertEqual(begun_anew(scene, (19, 6)), twice)

    def test_at_the_moment_0(self):
        self.assertEqual(STREET, begun_anew(STREET, ZERO))
        parted = (ROAD, FOUR, ((ONE, HALF), (ONE, HALF), (ONE, ONE), (ONE, HALF)), (TWO, ()), ())
        self.assertEqual(((TWO, HALF), (ONE, ONE), (ONE, HALF)), begun_anew(parted, ZERO)[2])
        self.assertEqual((TWO, ()), begun_anew(parted, ZERO)[3])

    def test_too_many(self):
        # Jams one behind another let their cars go with one front for each piece of the kind between both densities.
        beginning = ((HALF, (9, 2)), (HALF, ZERO)) * 14
        scene = (LEVEL, (14, 1), beginning, (ZERO, ()), ())
        moment = (1, 100)
        expected = len(picture(scene, moment))
        self.assertGreater(expected, 40)
        self.assertEqual(expected, raised_by(begun_anew, scene, moment).given)
        self.assertIs(TooMany, raised_by(begun_anew, scene, moment).__class__)
        self.assertLessEqual(len(begun_anew(scene, (10, 1))[2]), 40)

    def test_just_forty_pieces(self):
        # Fans of two pieces each from jams to empty stretches, with shocks between.
        beginning = ((HALF, THREE), (HALF, ZERO)) * 13
        for rest, many in (((), 39), (((HALF, ONE),), 40), (((HALF, THREE),), 41)):
            pieces = beginning + rest
            scene = (ROAD, pair(Fraction(len(pieces), 2)), pieces, (ZERO, ()), ())
            moment = (1, 1000)
            self.assertEqual(many, len(picture(scene, moment)))
            if many <= 40:
                self.assertEqual(many, len(begun_anew(scene, moment)[2]))
            else:
                found = raised_by(begun_anew, scene, moment)
                self.assertEqual((TooMany, many), (found.__class__, found.given))

    def test_forty_pieces_at_the_moment_0(self):
        beginning = (((1, 10), HALF), ((1, 10), ONE)) * 20
        scene = (ROAD, FOUR, beginning, (ZERO, ()), ())
        self.assertEqual(beginning, begun_anew(scene, ZERO)[2])


if __name__ == "__main__":
    unittest.main()
