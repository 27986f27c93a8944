"""Waits: the latest comings, and the time spent, waited ahead and held back."""

import unittest
from fractions import Fraction

from roadwaves.cars import coming, last_out, passing, travel_time
from roadwaves.counts import are_never_above, is_counts, when
from roadwaves.errors import InvalidScene
from roadwaves.pictures import counts_at
from roadwaves.scenes import all_cars, is_scene, start_number
from roadwaves.waits import held_back, latest_comings, time_spent, waited_ahead
from roadwaves.ways import number_at
from tests.scene_support import (CROWD, EMPTY, FIVE, FOUR, LEADER, LIGHT, NARROW, ONE, RED, ROAD, SIX, SOME_SCENES,
                                 STREET, THREE, TWO, ZERO, arrivals_in, corners_in, is_on, on_line, points_through,
                                 some_scenes, toll_of, tracks_in)
from tests.support import WRONG, check_refused, number, pair


def as_comings(counts):
    """Counts as the comings of a scene."""
    pieces = []
    for (moment, told), (later, more) in zip(counts, counts[1:]):
        duration = number(later) - number(moment)
        pieces.append((pair(duration), pair((number(more) - number(told)) / duration)))
    return (counts[0][1], tuple(pieces))


def lessened(counts):
    """The counts less on one piece each, for each piece on which anybody comes."""
    found = []
    for at, (corner, following) in enumerate(zip(counts, counts[1:])):
        if corner[1] != following[1]:
            for share in (Fraction(1, 2), Fraction(1, 30)):
                moment = number(corner[0]) + share * (number(following[0]) - number(corner[0]))
                bent = (pair(moment), corner[1])
                told = counts[:at + 1] + (bent,) + counts[at + 1:]
                # A corner between two level pieces is needless.
                if at > 0 and counts[at - 1][1] == corner[1]:
                    told = counts[:at] + (bent,) + counts[at + 1:]
                found.append(told)
    return found


def tolls_from(scene, since, moments):
    """The least tolls of ways from the place 0 at a moment to LENGTH at later moments, by a search of its own."""
    start, length = (Fraction(0), since), number(scene[1])
    ends = [(length, moment) for moment in moments]
    corners = [corner for corner in corners_in(scene) if corner[1] > since] + [start] + ends
    points = {point for corner in corners for point in points_through(scene, corner)} | set(corners)
    points = sorted((point for point in points if since < point[1] or point == start), key=lambda point: point[1])
    tolls, tracks = {start: Fraction(0)}, tracks_in(scene)
    for point in points:
        found = [tolls[start]] if point == start else []
        for earlier, value in tolls.items():
            toll = toll_of(scene[0], point[0] - earlier[0], point[1] - earlier[1])
            if toll is not None and earlier != point:
                found.append(value + toll)
            for track in tracks:
                if earlier[1] < point[1] and is_on(track, *earlier) and is_on(track, *point):
                    found.append(value + track[4] * (point[1] - earlier[1]))
        if found:
            tolls[point] = min(found)
    return [tolls.get(end) for end in ends]


def area_under(counts, last):
    """The area under counts up to a moment, by trapezoids."""
    line = [(number(moment), number(told)) for moment, told in counts]
    moments = sorted({moment for moment, _ in line if moment < last} | {Fraction(0), last})
    return sum((on_line(line, one) + on_line(line, other)) * (other - one) / 2
               for one, other in zip(moments, moments[1:]))


def summed(scene, time_of):
    """The sum over all cars of a time that is straight between the numbers at which any counts have a corner."""
    first, last = number(start_number(scene, scene[1])), number(all_cars(scene))
    lines = [latest_comings(scene), counts_at(scene, ZERO), counts_at(scene, scene[1])]
    numbers = {number(told) for line in lines for _, told in line} | {told for _, told in arrivals_in(scene)}
    numbers = sorted({told for told in numbers if first <= told <= last} | {first, last, Fraction(0)})
    return sum((other - one) * number(time_of(pair((one + other) / 2))) for one, other in zip(numbers, numbers[1:]))


def minus(one, other):
    """The difference of two fractions as pairs."""
    return pair(number(one) - number(other))


class LatestComings(unittest.TestCase):
    def test_by_hand(self):
        self.assertEqual(((ZERO, ZERO), ((3, 2), ZERO), (THREE, (3, 2)), (SIX, THREE)), latest_comings(STREET))
        # Two who wait come in with the flow 1: they may as well come so.
        self.assertEqual(((ZERO, ZERO), (TWO, TWO)), latest_comings(CROWD))
        # Behind the red light at 1 from 1 to 3 they leave from 3 on with the flow 1.
        self.assertEqual(((ZERO, ZERO), (TWO, ZERO), (FOUR, TWO)), latest_comings(LIGHT))
        # The leader is at the end at the moment 4, and so are those who come behind with the flow 1 from 2 on.
        self.assertEqual(((ZERO, ZERO), (TWO, ZERO), (FOUR, TWO)), latest_comings(LEADER))
        # The narrow place lets 1 / 2 past, from the moment 2 to the moment 6: two before that they may come so.
        self.assertEqual(((ZERO, ZERO), (FOUR, TWO)), latest_comings(NARROW))

    def test_nobody(self):
        for comings in ((ZERO, ()), (ZERO, ((ONE, ZERO), (TWO, ZERO)))):
            for beginning in (EMPTY, ((ONE, ZERO), (ONE, THREE)), ((TWO, THREE),)):
                for bars in ((), (RED,)):
                    self.assertEqual(((ZERO, ZERO),), latest_comings((ROAD, TWO, beginning, comings, bars)))

    def test_they_are_least_counts_with_which_all_leave_as_before(self):
        for scene in some_scenes(51, 36):
            with self.subTest(scene=scene):
                latest = latest_comings(scene)
                self.assertTrue(is_counts(latest))
                self.assertEqual(all_cars(scene), latest[-1][1])
                own = [(number(moment), number(told)) for moment, told in latest]
                arrivals = arrivals_in(scene)
                for moment in [moment for moment, _ in own + arrivals]:
                    self.assertLessEqual(on_line(own, moment), on_line(arrivals, moment))
                leaving = counts_at(scene, scene[1])
                changed = scene[:3] + (as_comings(latest), scene[4])
                self.assertTrue(is_scene(changed))
                self.assertEqual(leaving, counts_at(changed, scene[1]))
                self.assertEqual(latest, latest_comings(changed))
                for less in lessened(latest):
                    changed = scene[:3] + (as_comings(less), scene[4])
                    found = counts_at(changed, scene[1])
                    self.assertNotEqual(leaving, found)
                    self.assertTrue(are_never_above(found, leaving))

    def test_anything_between_lets_all_leave_as_before(self):
        for scene in some_scenes(52, 30):
            latest = latest_comings(scene)
            arrivals = arrivals_in(scene)
            own = [(number(moment), number(told)) for moment, told in latest]
            for share in (Fraction(1, 3), Fraction(4, 5)):
                moments = sorted({moment for moment, _ in own + arrivals})
                mixed = tuple((pair(moment), pair(share * on_line(own, moment) + (1 - share) * on_line(arrivals, moment)))
                              for moment in moments)
                changed = scene[:3] + (as_comings(mixed), scene[4])
                self.assertEqual(counts_at(scene, scene[1]), counts_at(changed, scene[1]))

    def test_against_the_words(self):
        # The greatest over all moments s of the number at LENGTH less the least toll; r is best as late as it may be.
        for scene in SOME_SCENES[::2] + some_scenes(53, 8)[len(SOME_SCENES):]:
            latest = [(number(moment), number(told)) for moment, told in latest_comings(scene)]
            leaving = counts_at(scene, scene[1])
            last = number(last_out(scene))
            tested = {moment for moment, _ in latest} | {(one[0] + other[0]) / 2 for one, other in zip(latest, latest[1:])}
            for since in sorted(tested):
                ends = {since + (last - since) * Fraction(part, 8) for part in range(9)} if since < last else {since}
                ends |= {number(moment) for moment, _ in leaving if number(moment) >= since}
                found = [Fraction(0)]
                for end, toll in zip(sorted(ends), tolls_from(scene, since, sorted(ends))):
                    if toll is not None:
                        found.append(number(number_at(scene, scene[1], pair(end))) - toll)
                self.assertLessEqual(max(found), on_line(latest, since))
                # It is come to where a way with a speed of the kind leads to a corner of the counts, or so.
                met = {point[1] for corner in corners_in(scene) + [(Fraction(0), since)]
                       for point in points_through_end(scene, corner) if point[1] >= since}
                for end, toll in zip(sorted(met), tolls_from(scene, since, sorted(met))):
                    if toll is not None:
                        found.append(number(number_at(scene, scene[1], pair(end))) - toll)
                self.assertEqual(on_line(latest, since), max(found))

    def test_wrong_scenes(self):
        for call in (latest_comings, time_spent, waited_ahead, held_back):
            for value in WRONG + [STREET[:4], list(STREET), (ROAD, FIVE) + STREET[2:]]:
                check_refused(self, InvalidScene, value, call, value)
                check_refused(self, InvalidScene, value, call, scene=value)


def points_through_end(scene, corner):
    """The corner, if it is at LENGTH, and where lines with the speeds of the kind through it come to LENGTH."""
    length = number(scene[1])
    found = [corner] if corner[0] == length else []
    for one, other in zip(scene[0], scene[0][1:]):
        speed = (number(other[1]) - number(one[1])) / (number(other[0]) - number(one[0]))
        if speed > 0:
            found.append((length, corner[1] + (length - corner[0]) / speed))
    return found


class Areas(unittest.TestCase):
    def test_by_hand(self):
        self.assertEqual([(18, 1), ZERO, (9, 8)], [call(STREET) for call in (time_spent, waited_ahead, held_back)])
        # Each of two needs 2; the last one waits 2, the first one does not.
        self.assertEqual([SIX, TWO, TWO], [call(CROWD) for call in (time_spent, waited_ahead, held_back)])
        empty = (ROAD, TWO, EMPTY, (ZERO, ()), (RED,))
        self.assertEqual([ZERO, ZERO, ZERO], [call(empty) for call in (time_spent, waited_ahead, held_back)])
        # Three stand on the last length: the first one leaves at once, the last one at the moment 3.
        jammed = (ROAD, TWO, ((ONE, ZERO), (ONE, THREE)), (ZERO, ()), ())
        self.assertEqual([(9, 2), ZERO, ZERO], [call(jammed) for call in (time_spent, waited_ahead, held_back)])

    def test_areas_between_counts(self):
        for scene in some_scenes(54, 30):
            last = max([number(last_out(scene))] + [moment for moment, _ in arrivals_in(scene)])
            arrivals = tuple((pair(moment), pair(told)) for moment, told in arrivals_in(scene))
            for call, other in ((time_spent, counts_at(scene, scene[1])), (waited_ahead, counts_at(scene, ZERO)),
                                (held_back, latest_comings(scene))):
                found = call(scene)
                self.assertEqual(area_under(arrivals, last) - area_under(other, last), number(found))
                self.assertGreaterEqual(found[0], 0)
            self.assertLessEqual(number(waited_ahead(scene)), number(held_back(scene)))
            self.assertLessEqual(number(held_back(scene)), number(time_spent(scene)))

    def test_times_of_single_cars(self):
        for scene in some_scenes(55, 25):
            latest = latest_comings(scene)
            self.assertEqual(summed(scene, lambda car: travel_time(scene, car)), number(time_spent(scene)))
            self.assertEqual(summed(scene, lambda car: minus(passing(scene, car, ZERO), coming(scene, car))),
                             number(waited_ahead(scene)))
            self.assertEqual(summed(scene, lambda car: minus(when(latest, car), coming(scene, car)) if car[0] > 0 else ZERO),
                             number(held_back(scene)))

    def test_bars_that_do_not_bite(self):
        slow = STREET[:4] + ((STREET[4][0][:4] + (ONE,),),)
        self.assertEqual([(16, 1), ZERO, ZERO], [call(slow) for call in (time_spent, waited_ahead, held_back)])
        self.assertEqual(((ZERO, ZERO), (SIX, THREE)), latest_comings(slow))

    def test_numbers_of_any_size(self):
        for unit in (Fraction(10) ** 390, Fraction(1, 3 ** 600)):
            kind = tuple((pair(number(density) / unit), pair(number(flow) / unit)) for density, flow in ROAD)
            up = pair(2 * unit)
            scene = (kind, up, ((up, ZERO),), (TWO, ()), ())
            self.assertEqual(((ZERO, ZERO), (up, TWO)), latest_comings(scene))
            self.assertEqual([pair(6 * unit), up, up], [call(scene=scene) for call in (time_spent, waited_ahead, held_back)])


if __name__ == "__main__":
    unittest.main()
