"""What is promised over the whole program, with what one module tells passed on to another one."""

import unittest
from fractions import Fraction

from roadwaves.bars import bars_from, never_later, parting_view
from roadwaves.books import cars_range, fitting_numbers, fitting_rims, is_book, is_fitting, number_range
from roadwaves.cars import course, coming, last_out, passing, travel_time
from roadwaves.certificates import certify_jam, certify_number, certify_passing, certify_rims
from roadwaves.checker import accepts
from roadwaves.compares import never_less, parting_scene
from roadwaves.consoles import Console
from roadwaves.counts import are_never_above, area_between, counts_sum, number_of, when
from roadwaves.errors import Broken, RoadError
from roadwaves.jams import is_jammed, jam_reach, jammed_moments, jammed_places, last_jam
from roadwaves.kinds import flow_at, lesser_kind
from roadwaves.marks import marked_counts
from roadwaves.pictures import counts_at, picture, states_at
from roadwaves.rims import barring_pair, can_be, inner_number, is_rims, rims_of
from roadwaves.scenes import all_cars, begun_anew, is_scene, start_number
from roadwaves.waits import held_back, latest_comings, time_spent, waited_ahead
from roadwaves.ways import number_at, on_road, waiting_at, way_number, way_to
from roadwaves.workshops import Workshop
from tests.rim_support import is_barred
from tests.scene_support import (ONE, SIX, STREET, ZERO, random_bars, random_beginning, random_comings, random_point,
                                 random_scene, searched_number, some_scenes)
from tests.support import number, pair, raised_by, random_fraction, random_kind, random_source
from tests.test_ways import random_way


def plus(one, other):
    """The sum of two fractions as pairs."""
    return pair(number(one) + number(other))


def as_comings(counts):
    """Counts as the comings of a scene."""
    pieces = []
    for (moment, told), (later, more) in zip(counts, counts[1:]):
        duration = number(later) - number(moment)
        pieces.append((pair(duration), pair((number(more) - number(told)) / duration)))
    return (counts[0][1], tuple(pieces))


def rated(counts, last):
    """Counts up to a last moment as pairs of a duration and a rate."""
    pieces = list(as_comings(counts)[1])
    rest = number(last) - sum(number(duration) for duration, _ in pieces)
    return pieces + ([(pair(rest), ZERO)] if rest > 0 else [])


class AllPlacesAndMoments(unittest.TestCase):
    def test_what_is_told_of_stretches_holds_at_each_place(self):
        source = random_source(161)
        for scene in some_scenes(162, 15):
            moment = random_point(source, scene)[1]
            for first, last, density, flow in picture(scene, moment):
                low, high = number(first), number(last)
                self.assertEqual(flow, flow_at(scene[0], density))
                told = number(number_at(scene, first, moment))
                for share in (Fraction(0), Fraction(1, 7), Fraction(source.randint(1, 10 ** 9), 10 ** 9), Fraction(1)):
                    place = pair(low + share * (high - low))
                    self.assertEqual(told - share * (high - low) * number(density), number(number_at(scene, place, moment)))
                    jammed = any(number(one) <= number(place) <= number(other) for one, other in jammed_places(scene, moment))
                    self.assertIs(jammed, is_jammed(scene, place, moment))

    def test_what_is_told_of_stretches_holds_at_each_moment(self):
        source = random_source(163)
        for scene in some_scenes(164, 15):
            place = random_point(source, scene)[0]
            counts = counts_at(scene, place)
            for first, last, rate, _, _ in states_at(scene, place):
                until = number(first) + 5 if last is None else number(last)
                for share in (Fraction(1, 7), Fraction(source.randint(1, 10 ** 9), 10 ** 9), Fraction(1)):
                    moment = pair(number(first) + share * (until - number(first)))
                    grown = number(number_at(scene, place, moment)) - number(number_at(scene, place, first))
                    self.assertEqual(number(rate) * share * (until - number(first)), grown)
                    self.assertEqual(number_at(scene, place, moment), number_of(counts, moment))

    def test_no_jam_behind_the_last_one_and_ahead_of_its_reach(self):
        source = random_source(165)
        for scene in some_scenes(166, 25):
            last, reach = last_jam(scene), jam_reach(scene)
            for _ in range(4):
                place, moment = random_point(source, scene)
                if is_jammed(scene, place, moment):
                    self.assertLessEqual(number(reach), number(place))
                    self.assertLessEqual(number(moment), number(last))
                if last is not None:
                    self.assertEqual((), jammed_places(scene, plus(last, moment)))
                    if place != reach and number(place) < number(reach):
                        self.assertEqual((), jammed_moments(scene, place))

    def test_cars_are_where_their_numbers_are(self):
        source = random_source(167)
        for scene in some_scenes(168, 12):
            first, last = number(start_number(scene, scene[1])), number(all_cars(scene))
            car = pair(first + (last - first) * Fraction(source.randint(0, 24), 24))
            corners = course(scene, car)
            for (moment, place), (later, farther) in zip(corners, corners[1:]):
                share = Fraction(source.randint(1, 99), 100)
                where = pair(number(place) + share * (number(farther) - number(place)))
                at = pair(number(moment) + share * (number(later) - number(moment)))
                self.assertLessEqual(number(car), number(number_at(scene, where, at)))
                self.assertLessEqual(number(passing(scene, car, where)), number(at))
            self.assertEqual(travel_time(scene, car), pair(number(corners[-1][0]) - number(coming(scene, car))))


class LeastWays(unittest.TestCase):
    def test_a_number_comes_with_a_way_and_no_way_has_less(self):
        source = random_source(169)
        for scene in some_scenes(170, 25):
            place, moment = random_point(source, scene)
            told = number_at(scene, place, moment)
            way = way_to(scene, place, moment)
            self.assertEqual((place, moment), way[-1][1:])
            self.assertEqual(told, way_number(scene, way))
            self.assertIs(True, accepts(("at most", scene, place, moment, told), way))
            self.assertEqual(searched_number(scene, place, moment), number(told))
            other = random_way(source, scene)
            self.assertLessEqual(number(number_at(scene, *other[-1][1:])), number(way_number(scene, other)))

    def test_begun_anew_the_numbers_go_on(self):
        source = random_source(171)
        for scene in some_scenes(172, 15):
            begun, (place, later) = random_point(source, scene)[1], random_point(source, scene)
            anew = begun_anew(scene, begun)
            self.assertTrue(is_scene(anew))
            told = number(number_at(scene, place, plus(begun, later))) - number(number_at(scene, ZERO, begun))
            self.assertEqual(told, number(number_at(anew, place, later)))
            self.assertEqual(waiting_at(scene, begun), waiting_at(anew, ZERO))
            self.assertEqual(on_road(scene, begun), on_road(anew, ZERO))
            self.assertEqual(latest_comings(anew)[-1][1], all_cars(anew))


class NeverLater(unittest.TestCase):
    def test_for_all_beginnings_comings_and_moments(self):
        source = random_source(173)
        found = set()
        for at in range(60):
            kind, length = random_kind(source, 3), random_fraction(source, 1, 5)
            bars = random_bars(source, kind, length, 2)
            other = bars + random_bars(source, kind, length, 1) if at % 2 else bars[1:]
            other = other if is_scene((kind, pair(length), ((pair(length), ZERO),), (ZERO, ()), other)) else bars
            for lots in ((bars, other), (other, bars)):
                told = never_later(kind, pair(length), *lots)
                found.add(told)
                if not told:
                    view = parting_view(kind, pair(length), *lots)
                    self.assertIs(True, accepts(("later", kind, pair(length)) + lots, view))
                    continue
                for _ in range(3):
                    begun = pair(random_fraction(source, 0, 4))
                    beginning, comings = random_beginning(source, kind, length, 2), random_comings(source, kind, 2)
                    scenes = [(kind, pair(length), beginning, comings, bars_from(kind, pair(length), lot, begun)) for lot in lots]
                    point = random_point(source, scenes[1])
                    self.assertGreaterEqual(number(number_at(scenes[0], *point)), number(number_at(scenes[1], *point)))
                    self.assertTrue(are_never_above(counts_at(scenes[1], pair(length)), counts_at(scenes[0], pair(length))))
                    self.assertLessEqual(number(time_spent(scenes[0])), number(time_spent(scenes[1])))
        self.assertEqual({False, True}, found)

    def test_a_kind_that_is_never_less(self):
        source = random_source(174)
        for _ in range(20):
            kind, other = random_kind(source, 3), random_kind(source, 3)
            less = lesser_kind(kind, other)
            self.assertTrue(never_less(kind, less) and never_less(other, less))
            scene = random_scene(source, 2)
            length = scene[1]
            beginning = random_beginning(source, less, number(length), 2)
            bars = tuple(bar for bar in scene[4] if all(is_scene((one, length, beginning, scene[3], (bar,)))
                                                        for one in (kind, less)))
            scenes = [(one, length, beginning, scene[3], bars) for one in (kind, less)]
            point = random_point(source, scenes[0])
            self.assertGreaterEqual(number(number_at(scenes[0], *point)), number(number_at(scenes[1], *point)))
            if not never_less(less, kind):
                begun, place, moment = parting_scene(less, kind, length)
                told = [number_at((one, length, begun, (ZERO, ()), ()), place, moment) for one in (less, kind)]
                self.assertLess(number(told[0]), number(told[1]))

    def test_nobody_comes_later_without_leaving_later(self):
        for scene in some_scenes(175, 15):
            latest = latest_comings(scene)
            late = scene[:3] + (as_comings(latest), scene[4])
            self.assertEqual(counts_at(scene, scene[1]), counts_at(late, scene[1]))
            self.assertEqual(number(time_spent(scene)) - number(held_back(scene)), number(time_spent(late)))
            # Nobody who comes so waits ahead of the road longer than is left of what all are held back.
            self.assertEqual(ZERO, held_back(late))
            self.assertEqual(ZERO, waited_ahead(late))


class Counts(unittest.TestCase):
    def test_rims_of_traffic_can_be_and_settle_it(self):
        source = random_source(176)
        for at, scene in enumerate(some_scenes(177, 15)):
            rims = rims_of(scene, SIX)
            self.assertTrue(is_rims(rims))
            self.assertEqual(("can be", rims), certify_rims(rims)[0])
            point = (random_point(source, scene)[0], pair(Fraction(source.randint(0, 24), 4)))
            settled = number(inner_number(rims, *point))
            if scene[4] == ():
                self.assertEqual(settled, number(number_at(scene, *point)))
            self.assertGreaterEqual(settled, number(number_at(scene, *point)))

    def test_rims_that_can_not_be_come_with_a_pair(self):
        many = 0
        for scene in some_scenes(178, 15):
            # More go out from the beginning on than any traffic of the kind lets.
            rims = rims_of(scene, SIX)
            first = rims[4][0][1]
            top = max(number(flow) for _, flow in scene[0])
            rims = rims[:4] + (((ZERO, first), (SIX, pair(number(first) + 6 * top + 1))), SIX)
            self.assertTrue(is_rims(rims))
            one, other = barring_pair(rims)
            self.assertTrue(is_barred(rims, tuple(map(number, one)), tuple(map(number, other))))
            self.assertIs(True, accepts(("can't be", rims), (one, other)))
            self.assertIs(False, can_be(rims))
            many += 1
        self.assertGreater(many, 15)

    def book_of(self, source, scene, last):
        """A book of a scene's traffic up to a moment, with bounds around its own numbers, and these; None for too many."""
        rims = rims_of(scene, last)
        lots = [rated(rims[3], last), rated(rims[4], last), list(rims[2])]
        if sum(map(len, lots)) > 8:
            return None
        full = number(scene[0][-1][0])
        pieces = []
        for lot in lots:
            told = []
            for width, rate in lot:
                low = number(rate) * Fraction(source.randint(0, 4), 4)
                high = number(rate) + Fraction(source.randint(0, 2), 2)
                told.append((width, pair(low), pair(min(high, full) if lot is lots[2] else high)))
            pieces.append(tuple(told))
        numbers = tuple(rate for lot in lots for _, rate in lot)
        return (scene[0], scene[1], last) + tuple(pieces), numbers

    def test_what_readings_leave_sure_holds_for_all_traffic_that_fits(self):
        source = random_source(179)
        many = 0
        while many < 40:
            scene = random_scene(source, source.choice([0, 0, 1]), pieces=2)
            last = pair(random_fraction(source, 1, 6))
            made = self.book_of(source, scene, last)
            if made is None:
                continue
            many += 1
            book, numbers = made
            self.assertTrue(is_book(book))
            counted = number(counts_at(scene, ZERO)[0][1])
            half = pair(number(last) / 2)
            came = number(number_at(scene, ZERO, half)) - counted
            sights = (("in", ZERO, half, pair(max(came - Fraction(1, 3), Fraction(0))), pair(came + Fraction(1, 2))),)
            self.assertIs(True, is_fitting(book, sights, numbers))
            self.assertIsNotNone(fitting_numbers(book, sights))
            self.assertIs(True, can_be(fitting_rims(book, sights)))
            place, moment = random_point(source, scene)[0], pair(number(last) * Fraction(source.randint(0, 8), 8))
            low, high = number_range(book, sights, place, moment)
            told = inner_number(rims_of(scene, last), place, moment)
            self.assertTrue(number(low) <= number(told) <= number(high))
            if scene[4] == ():
                self.assertEqual(told, number_at(scene, place, moment))
            self.assertIs(True, accepts(("sure", book, sights, place, moment, low, high), ()))
            least, most = cars_range(book, sights, "in", ZERO, half)
            self.assertTrue(number(least) <= came <= number(most))

    def test_counts_of_marked_cars_add_up_to_all(self):
        source = random_source(180)
        for scene in some_scenes(181, 15):
            first, last = number(start_number(scene, scene[1])), number(all_cars(scene))
            if first == last:
                continue
            place = random_point(source, scene)[0]
            ends = [pair(first + (last - first) * Fraction(at, 6)) for at in range(7)]
            odd = tuple((one, other) for at, (one, other) in enumerate(zip(ends, ends[1:])) if at % 2)
            even = tuple((one, other) for at, (one, other) in enumerate(zip(ends, ends[1:])) if not at % 2)
            told = counts_sum(marked_counts(scene, odd, place), marked_counts(scene, even, place))
            expected = tuple((moment, pair(number(value) - first)) for moment, value in counts_at(scene, place))
            self.assertEqual(expected, told)
            self.assertEqual(when(counts_at(scene, place), ends[3]), passing(scene, ends[3], place))
            out = last_out(scene)
            area = area_between(((ZERO, pair(last)),), counts_at(scene, scene[1]), out)
            self.assertEqual(number(area), number(time_spent(scene)) + sum_of_waits_to_come(scene, out))


def sum_of_waits_to_come(scene, out):
    """How much time passes up to the end until each car has come."""
    last, begin, told, found = number(all_cars(scene)), Fraction(0), number(scene[3][0]), Fraction(0)
    for duration, rate in scene[3][1]:
        end = begin + number(duration)
        more = told + number(duration) * number(rate)
        found += (2 * last - told - more) * number(duration) / 2
        begin, told = end, more
    return found


class Workshops(unittest.TestCase):
    def test_wishes_of_what_other_modules_tell(self):
        source = random_source(182)
        shop = Workshop()
        console = Console(shop)
        for scene in some_scenes(183, 10):
            many = len(shop)
            self.assertEqual("done", console.say("put main: " + text_of(scene)))
            self.assertEqual(scene, shop.named("main"))
            place, moment = random_point(source, scene)
            shop.wish(("passed", "main", place, moment, number_at(scene, place, moment)))
            shop.wish(("out", "main", last_out(scene)))
            shop.wish(("spent", "main", time_spent(scene)))
            self.assertEqual(many + 4, len(shop))
            kept = len(shop), shop.wishes
            changed = begun_anew(scene, ONE)
            for other in (STREET, changed):
                error = raised_by(shop.put, "main", other)
                if error is None:
                    shop.undo()
                else:
                    self.assertIs(Broken, error.__class__)
                self.assertEqual(kept, (len(shop), shop.wishes))
                self.assertIs(True, shop.named("main") == scene)
            held = shop.tried(lambda told: [told.lift(0) for _ in range(3)] and told.wishes)
            self.assertEqual((), held)
            while len(shop) > many:
                shop.undo()
            self.assertEqual((), shop.wishes)
        self.assertEqual(0, len(shop))


def text_of(scene):
    """The text of a scene, told by a console."""
    shop = Workshop()
    shop.put("a", scene)
    return Console(shop).say("scene a")


class Checker(unittest.TestCase):
    def test_what_is_accepted_is_so_and_what_is_made_is_accepted(self):
        source = random_source(184)
        for scene in some_scenes(185, 12):
            place, moment = random_point(source, scene)
            told = number_at(scene, place, moment)
            for fraction in (told, pair(number(told) - 1), passing(scene, all_cars(scene), place)):
                claim, paper = certify_number(scene, place, moment, fraction)
                self.assertIs(True, accepts(claim, paper))
                self.assertIs(number(told) <= number(fraction), claim[0] == "at most")
            claim, paper = certify_passing(scene, all_cars(scene), place, moment)
            self.assertIs(True, accepts(claim, paper))
            self.assertIs(number(passing(scene, all_cars(scene), place)) <= number(moment), claim[0] == "gone by")
            claim, paper = certify_jam(scene)
            self.assertIs(True, accepts(claim, paper))
            self.assertIs(jam_reach(scene) is None, claim[0] == "never jammed")
            if paper:
                self.assertTrue(is_jammed(scene, *paper))

    def test_each_error_stands_under_one(self):
        for call, values in ((number_at, (STREET, None, None)), (accepts, ()), (Console, (None,)), (rims_of, (STREET, ZERO))):
            error = raised_by(call, *values)
            self.assertIs(call is not accepts, isinstance(error, RoadError))


if __name__ == "__main__":
    unittest.main()
