"""Counts: what they are, their numbers, sums, the lesser and the greater ones, later ones, areas."""

import unittest
from fractions import Fraction
from inspect import signature

from roadwaves import counts as module
from roadwaves.counts import (are_never_above, area_between, counts_sum, greatest_counts, is_counts, later_counts,
                              least_counts, number_of, when)
from roadwaves.errors import InvalidCounts, InvalidMoment, InvalidNumber
from tests.support import (BELOW_ZERO, WRONG, check_order, check_refused, check_wrong_values, nested, number,
                           pair, random_counts, random_source)

ZERO, HALF, ONE, TWO, THREE, FOUR, FIVE, SIX = (0, 1), (1, 2), (1, 1), (2, 1), (3, 1), (4, 1), (5, 1), (6, 1)
TINY = Fraction(1, 10 ** 300)

LATE = ((ZERO, ZERO), (TWO, ZERO), (FOUR, ONE))
EVEN = ((ZERO, ZERO), (FOUR, ONE))
FLAT = ((ZERO, HALF),)
# A stop from 2 to 3, and a first number below 0.
STOP = ((ZERO, (-2, 1)), (TWO, ONE), (THREE, ONE), (FIVE, TWO))
WRONG_COUNTS = [
    list(EVEN), (list(EVEN[0]), EVEN[1]), (EVEN[0], list(EVEN[1])), (([0, 1], ZERO), EVEN[1]), EVEN[1:], EVEN[::-1],
    ((ZERO, ZERO), (TWO, ZERO)), ((ZERO, ONE), (TWO, HALF)), ((ZERO, ZERO), (ONE, ONE), (TWO, TWO)),
]


def random_pairs(seed, many):
    source = random_source(seed)
    return [[random_counts(source, source.randint(0, 6)) for _ in range(2)] for _ in range(many)]


PAIRS = [(one, other) for one in (LATE, EVEN, FLAT, STOP) for other in (LATE, EVEN, FLAT, STOP)] + random_pairs(3, 40)
SOME = [LATE, EVEN, FLAT, STOP] + [one for one, _ in random_pairs(17, 20)]


def told(counts, moment):
    """The number at a moment, looked for piece by piece."""
    for (start, low), (end, high) in zip(counts, counts[1:]):
        if number(start) <= moment <= number(end):
            share = (moment - number(start)) / (number(end) - number(start))
            return number(low) + share * (number(high) - number(low))
    return number(counts[0][1]) if moment == 0 else number(counts[-1][1])


def moments_for(*several):
    """Many moments up to somewhat behind the last corner, those of all corners among them."""
    corners = sorted({number(moment) for counts in several for moment, _ in counts})
    found = [corners[-1] + TINY, corners[-1] + 1, corners[-1] + 1000]
    for moment, following in zip(corners, corners[1:] + [corners[-1] + 2]):
        found += [moment + (following - moment) * part / 6 for part in range(6)]
    return found


class Interface(unittest.TestCase):
    PARAMETERS = {
        "is_counts": ["value"], "number_of": ["counts", "moment"], "when": ["counts", "number"],
        "counts_sum": ["counts", "other"], "least_counts": ["counts", "other"],
        "greatest_counts": ["counts", "other"], "later_counts": ["counts", "moment"],
        "are_never_above": ["counts", "other"], "area_between": ["counts", "other", "last"],
    }

    def test_names_of_functions_and_parameters(self):
        for name, parameters in self.PARAMETERS.items():
            with self.subTest(name=name):
                function = getattr(module, name)
                self.assertEqual("roadwaves.counts", function.__module__)
                self.assertEqual(parameters, list(signature(function).parameters))

    def test_arguments_by_name(self):
        self.assertIs(True, is_counts(value=LATE))
        self.assertEqual(HALF, number_of(moment=THREE, counts=LATE))
        self.assertEqual(THREE, when(number=HALF, counts=LATE))
        self.assertEqual(((ZERO, ZERO), (TWO, HALF), (FOUR, TWO)), counts_sum(other=EVEN, counts=LATE))
        self.assertEqual(LATE, least_counts(other=EVEN, counts=LATE))
        self.assertEqual(EVEN, greatest_counts(other=EVEN, counts=LATE))
        self.assertEqual(((ZERO, ZERO), (ONE, ZERO), (FIVE, ONE)), later_counts(moment=ONE, counts=EVEN))
        self.assertIs(False, are_never_above(other=LATE, counts=EVEN))
        self.assertEqual((-1, 1), area_between(last=FOUR, other=EVEN, counts=LATE))

    def test_equal_calls_have_equal_results(self):
        for one, other in PAIRS:
            for call in (counts_sum, least_counts, greatest_counts, are_never_above):
                self.assertEqual(call(one, other), call(tuple(list(one)), tuple(list(other))))


class IsCounts(unittest.TestCase):
    def test_counts(self):
        for counts in SOME:
            self.assertIs(True, is_counts(counts))

    def test_one_corner(self):
        for value in (ZERO, HALF, (-7, 3), (10 ** 390, 1)):
            self.assertIs(True, is_counts(((ZERO, value),)))
        for moment in (ONE, pair(TINY), (-1, 1)):
            self.assertIs(False, is_counts(((moment, ZERO),)))

    def test_no_counts_at_all(self):
        for which, value in enumerate(WRONG + [nested(14)] + BELOW_ZERO + WRONG_COUNTS + [ZERO, ONE, (ZERO, ZERO)]):
            with self.subTest(which=which):
                self.assertIs(False, is_counts(value))

    def test_many_corners(self):
        many = tuple(((at, 1), (at * at, 1)) for at in range(300))
        self.assertIs(True, is_counts(many))
        self.assertIs(False, is_counts(many[:200] + many[199:]))

    def test_each_part_has_to_be_a_fraction(self):
        for at in range(len(STOP)):
            for part in range(2):
                for which, value in enumerate(WRONG):
                    corner = list(STOP[at])
                    corner[part] = value
                    with self.subTest(at=at, part=part, which=which):
                        self.assertIs(False, is_counts(STOP[:at] + (tuple(corner),) + STOP[at + 1:]))

    def test_each_corner_has_to_be_a_pair(self):
        for at in range(len(STOP)):
            for value in WRONG + [STOP[at] + (ZERO,), STOP[at][:1], list(STOP[at]), STOP]:
                self.assertIs(False, is_counts(STOP[:at] + (value,) + STOP[at + 1:]))

    def test_fractions_that_are_not_reduced(self):
        self.assertIs(True, is_counts(((ZERO, ZERO), (HALF, HALF))))
        for wrong in ((2, 4), (-1, -2), (1, 0), (True, 2)):
            self.assertIs(False, is_counts(((ZERO, ZERO), (wrong, HALF))))
            self.assertIs(False, is_counts(((ZERO, ZERO), (HALF, wrong))))
        for wrong in ((0, 2), (0, -1), (False, 1), (0, True)):
            self.assertIs(False, is_counts(((wrong, ZERO), (HALF, HALF))))
            self.assertIs(False, is_counts(((ZERO, wrong), (HALF, HALF))))

    def test_first_moment_is_0(self):
        for moment in (pair(TINY), HALF, (-1, 2), (-1, 1)):
            self.assertIs(False, is_counts(((moment, ZERO), (ONE, ONE))))
        self.assertIs(False, is_counts((((-1, 1), ZERO), (ZERO, HALF), (ONE, TWO))))

    def test_moments_ascend(self):
        self.assertIs(False, is_counts(((ZERO, ZERO), (ZERO, ONE))))
        self.assertIs(False, is_counts(((ZERO, ZERO), (ONE, ONE), (ONE, THREE))))
        self.assertIs(False, is_counts(((ZERO, ZERO), (ONE, ONE), (HALF, THREE))))
        self.assertIs(False, is_counts(((ZERO, ZERO), (TWO, ONE), (ONE, THREE), (THREE, FOUR))))
        self.assertIs(False, is_counts(((ZERO, ZERO), ((-1, 1), (-1, 1)))))
        self.assertIs(True, is_counts(((ZERO, ZERO), ((9, 1), ONE), ((10, 1), THREE))))
        self.assertIs(True, is_counts(((ZERO, ZERO), ((1, 3), ONE), (HALF, THREE))))
        self.assertIs(False, is_counts(((ZERO, ZERO), (HALF, ONE), ((1, 3), THREE))))

    def test_numbers_nowhere_fall(self):
        self.assertIs(False, is_counts(((ZERO, ZERO), (ONE, pair(-TINY)))))
        self.assertIs(True, is_counts(((ZERO, ZERO), (ONE, pair(TINY)))))
        self.assertIs(False, is_counts(((ZERO, ZERO), (ONE, ONE), (TWO, HALF))))
        self.assertIs(False, is_counts(((ZERO, ZERO), (ONE, ONE), (TWO, HALF), (THREE, TWO))))
        self.assertIs(False, is_counts(((ZERO, (-1, 1)), (ONE, (-2, 1)), (THREE, FIVE))))
        self.assertIs(True, is_counts(((ZERO, (-2, 1)), (ONE, (-1, 1)), (THREE, FIVE))))

    def test_no_corner_is_needless(self):
        # The last one, where the number stayed already.
        self.assertIs(False, is_counts(((ZERO, ZERO), (ONE, ZERO))))
        self.assertIs(False, is_counts(EVEN + ((FIVE, ONE),)))
        # One between two pieces of one rate, of the rate 0 as well.
        self.assertIs(False, is_counts(((ZERO, ZERO), (ONE, ONE), (THREE, THREE))))
        self.assertIs(False, is_counts(((ZERO, ZERO), (ONE, ZERO), (TWO, ZERO), (THREE, ONE))))
        self.assertIs(False, is_counts(STOP[:1] + (((4, 3), ZERO),) + STOP[1:]))
        self.assertIs(False, is_counts(STOP[:3] + ((FOUR, (3, 2)),) + STOP[3:]))
        self.assertIs(True, is_counts(STOP[:3] + ((FOUR, pair(Fraction(3, 2) + TINY)),) + STOP[3:]))
        # The first one is needed whatever the rate behind it, also 0.
        self.assertIs(True, is_counts(LATE))


class Numbers(unittest.TestCase):
    def test_by_hand(self):
        found = [number_of(STOP, moment) for moment in (ZERO, ONE, TWO, (5, 2), THREE, (7, 2), FIVE, SIX)]
        self.assertEqual([(-2, 1), (-1, 2), ONE, ONE, ONE, (5, 4), TWO, TWO], found)

    def test_at_corners_between_and_behind(self):
        for counts in SOME:
            for moment in moments_for(counts):
                self.assertEqual(pair(told(counts, moment)), number_of(counts, pair(moment)))
            for moment, value in counts:
                self.assertEqual(value, number_of(counts, moment))
            self.assertEqual(counts[-1][1], number_of(counts, (10 ** 390, 1)))

    def test_one_corner(self):
        self.assertEqual([HALF] * 3, [number_of(FLAT, moment) for moment in (ZERO, ONE, (10 ** 9, 7))])

    def test_wrong_values(self):
        check_wrong_values(self, number_of, (LATE, ONE), 0, InvalidCounts, WRONG + WRONG_COUNTS)
        check_wrong_values(self, number_of, (LATE, ONE), 1, InvalidMoment, WRONG + BELOW_ZERO)
        check_order(self, number_of, (LATE, ONE), (InvalidCounts, InvalidMoment))


class When(unittest.TestCase):
    def test_by_hand(self):
        found = [when(STOP, value) for value in ((-9, 1), (-2, 1), (-1, 1), ZERO, ONE, (5, 4), TWO, pair(2 + TINY))]
        self.assertEqual([ZERO, ZERO, (2, 3), (4, 3), TWO, (7, 2), FIVE, None], found)

    def test_a_stop(self):
        # The number 1 is reached when the stop begins, any greater one behind it only.
        self.assertEqual(TWO, when(STOP, ONE))
        self.assertEqual(pair(3 + 2 * TINY), when(STOP, pair(1 + TINY)))
        self.assertEqual(ZERO, when(LATE, ZERO))
        self.assertEqual(pair(2 + 2 * TINY), when(LATE, pair(TINY)))

    def test_one_corner(self):
        self.assertEqual([ZERO, ZERO, ZERO, None, None], [
            when(FLAT, value) for value in ((-10 ** 390, 1), ZERO, HALF, pair(Fraction(1, 2) + TINY), ONE)])

    def test_first_moment_at_which_the_number_is_reached(self):
        for counts in SOME:
            first, last = number(counts[0][1]), number(counts[-1][1])
            self.assertIsNone(when(counts, pair(last + TINY)))
            self.assertEqual(ZERO, when(counts, pair(first - 1)))
            values = [number(corner[1]) for corner in counts] + [first + (last - first) * at / 9 for at in range(9)]
            for value in values:
                moment = number(when(counts, pair(value)))
                self.assertGreaterEqual(moment, 0)
                self.assertEqual(value, told(counts, moment))
                if moment > 0:
                    self.assertLess(told(counts, moment * 999 / 1000), value)

    def test_wrong_values(self):
        check_wrong_values(self, when, (LATE, ONE), 0, InvalidCounts, WRONG + WRONG_COUNTS)
        check_wrong_values(self, when, (LATE, ONE), 1, InvalidNumber, WRONG)
        check_order(self, when, (LATE, ONE), (InvalidCounts, InvalidNumber))


class Joined(unittest.TestCase):
    """Sums, the lesser and the greater ones."""

    def check(self, call, reckon):
        for one, other in PAIRS:
            found = call(one, other)
            self.assertIs(True, is_counts(found))
            self.assertEqual(found, call(other, one))
            for moment in moments_for(one, other, found):
                wanted = pair(reckon(told(one, moment), told(other, moment)))
                self.assertEqual(wanted, number_of(found, pair(moment)))

    def test_sum(self):
        self.check(counts_sum, lambda one, other: one + other)

    def test_lesser(self):
        self.check(least_counts, min)

    def test_greater(self):
        self.check(greatest_counts, max)

    def test_sums_by_hand(self):
        self.assertEqual(((ZERO, ONE),), counts_sum(FLAT, FLAT))
        self.assertEqual(((ZERO, HALF), (TWO, HALF), (FOUR, (3, 2))), counts_sum(FLAT, LATE))
        # The bend at 2 is gone in the sum, as the rates of both change by the opposite of each other.
        one = ((ZERO, ZERO), (TWO, ZERO), (FOUR, TWO))
        other = ((ZERO, ZERO), (TWO, TWO))
        self.assertEqual(((ZERO, ZERO), (FOUR, FOUR)), counts_sum(one, other))
        below = ((ZERO, (-1, 1)), (ONE, (-1, 2)))
        self.assertEqual(((ZERO, (-3, 1)), (ONE, (-1, 1)), (TWO, HALF), (THREE, HALF), (FIVE, (3, 2))),
                         counts_sum(below, STOP))

    def test_crossing(self):
        one, other = ((ZERO, ZERO), (FOUR, FOUR)), ((ZERO, ONE), (FOUR, TWO))
        at = ((4, 3), (4, 3))
        self.assertEqual(((ZERO, ZERO), at, (FOUR, TWO)), least_counts(one, other))
        self.assertEqual(((ZERO, ONE), at, (FOUR, FOUR)), greatest_counts(one, other))

    def test_crossing_behind_the_last_corner_of_one(self):
        self.assertEqual(((ZERO, ZERO), (TWO, ZERO), (THREE, HALF)), least_counts(LATE, FLAT))
        self.assertEqual(((ZERO, HALF), (THREE, HALF), (FOUR, ONE)), greatest_counts(LATE, FLAT))

    def test_crossing_twice(self):
        one, other = ((ZERO, ONE), (ONE, TWO), (FIVE, FOUR)), ((ZERO, ZERO), (TWO, FOUR))
        self.assertEqual(((ZERO, ZERO), (ONE, TWO), (FIVE, FOUR)), least_counts(one, other))
        self.assertEqual(((ZERO, ONE), (ONE, TWO), (TWO, FOUR)), greatest_counts(one, other))
        one = ((ZERO, ONE), (FOUR, THREE), (SIX, SIX))
        other = ((ZERO, ZERO), (TWO, FOUR), (FIVE, FOUR), (SIX, FIVE))
        self.assertEqual(((ZERO, ZERO), ((2, 3), (4, 3)), (FOUR, THREE), ((14, 3), FOUR), (FIVE, FOUR), (SIX, FIVE)),
                         least_counts(one, other))
        self.assertEqual(((ZERO, ONE), ((2, 3), (4, 3)), (TWO, FOUR), ((14, 3), FOUR), (SIX, SIX)),
                         greatest_counts(one, other))

    def test_touching(self):
        # Both have the number 1 at the moment 2, and one is above the other one on both sides.
        one, other = ((ZERO, ZERO), (TWO, ONE), (FOUR, ONE), (FIVE, TWO)), ((ZERO, HALF), (TWO, ONE), (FOUR, TWO))
        self.assertEqual(one, least_counts(one, other))
        self.assertEqual(other, greatest_counts(one, other))
        # One touches the other one, which is straight there, with a corner.
        one, other = ((ZERO, ZERO), (TWO, TWO), (FOUR, THREE)), ((ZERO, ZERO), (FIVE, FIVE))
        self.assertEqual(((ZERO, ZERO), (TWO, TWO), (FOUR, THREE)), least_counts(one, other))
        self.assertEqual(((ZERO, ZERO), (FIVE, FIVE)), greatest_counts(one, other))
        one, other = ((ZERO, ONE), (ONE, ONE), (TWO, THREE)), ((ZERO, ZERO), (FOUR, FOUR))
        self.assertEqual(((ZERO, ZERO), (THREE, THREE)), least_counts(one, other))
        self.assertEqual(((ZERO, ONE), (ONE, ONE), (TWO, THREE), (THREE, THREE), (FOUR, FOUR)),
                         greatest_counts(one, other))

    def test_of_counts_and_themselves(self):
        for counts in SOME:
            self.assertEqual(counts, least_counts(counts, counts))
            self.assertEqual(counts, greatest_counts(counts, counts))
            self.assertEqual(tuple((moment, pair(2 * number(value))) for moment, value in counts),
                             counts_sum(counts, counts))

    def test_lesser_and_greater_make_the_sum(self):
        for one, other in PAIRS:
            both = counts_sum(least_counts(one, other), greatest_counts(one, other))
            self.assertEqual(counts_sum(one, other), both)

    def test_wrong_values(self):
        for call in (counts_sum, least_counts, greatest_counts, are_never_above):
            check_wrong_values(self, call, (LATE, EVEN), 0, InvalidCounts, WRONG + WRONG_COUNTS)
            check_wrong_values(self, call, (LATE, EVEN), 1, InvalidCounts, WRONG + WRONG_COUNTS)
            check_order(self, call, (LATE, EVEN), (InvalidCounts, InvalidCounts))


class Later(unittest.TestCase):
    def test_by_hand(self):
        self.assertEqual(((ZERO, ZERO), (ONE, ZERO), (FIVE, ONE)), later_counts(EVEN, ONE))
        self.assertEqual(((ZERO, ZERO), ((5, 2), ZERO), ((9, 2), ONE)), later_counts(LATE, HALF))
        self.assertEqual(((ZERO, (-2, 1)), (ONE, (-2, 1)), (THREE, ONE), (FOUR, ONE), (SIX, TWO)),
                         later_counts(STOP, ONE))

    def test_by_0(self):
        for counts in SOME:
            self.assertEqual(counts, later_counts(counts, ZERO))

    def test_one_corner(self):
        for moment in (ZERO, HALF, (10 ** 390, 1)):
            self.assertEqual(FLAT, later_counts(FLAT, moment))

    def test_all_numbers_come_later(self):
        for counts in SOME:
            for later in (TINY, Fraction(1, 3), Fraction(5)):
                found = later_counts(counts, pair(later))
                self.assertIs(True, is_counts(found))
                for moment in moments_for(counts):
                    self.assertEqual(pair(told(counts, moment)), number_of(found, pair(moment + later)))
                for part in range(5):
                    self.assertEqual(counts[0][1], number_of(found, pair(later * part / 4)))

    def test_twice(self):
        for counts in SOME:
            self.assertEqual(later_counts(counts, TWO), later_counts(later_counts(counts, HALF), (3, 2)))

    def test_wrong_values(self):
        check_wrong_values(self, later_counts, (LATE, ONE), 0, InvalidCounts, WRONG + WRONG_COUNTS)
        check_wrong_values(self, later_counts, (LATE, ONE), 1, InvalidMoment, WRONG + BELOW_ZERO)
        check_order(self, later_counts, (LATE, ONE), (InvalidCounts, InvalidMoment))


class NeverAbove(unittest.TestCase):
    def test_by_hand(self):
        self.assertIs(True, are_never_above(LATE, EVEN))
        self.assertIs(False, are_never_above(EVEN, LATE))
        self.assertIs(False, are_never_above(FLAT, LATE))
        self.assertIs(False, are_never_above(LATE, FLAT))
        self.assertIs(True, are_never_above(((ZERO, ZERO),), FLAT))
        self.assertIs(False, are_never_above(FLAT, ((ZERO, ZERO),)))

    def test_at_all_moments(self):
        for one, other in PAIRS:
            wanted = all(told(one, moment) <= told(other, moment) for moment in moments_for(one, other))
            self.assertIs(wanted, are_never_above(one, other))
            self.assertIs(True, are_never_above(least_counts(one, other), one))
            self.assertIs(True, are_never_above(one, greatest_counts(one, other)))

    def test_of_counts_and_themselves(self):
        for counts in SOME:
            self.assertIs(True, are_never_above(counts, counts))

    def test_touching_and_just_above(self):
        one = ((ZERO, ZERO), (TWO, ONE))
        for gap, wanted in ((Fraction(0), True), (TINY, False), (-TINY, True)):
            # Above at the first moment alone, from the last corner on alone, or at one corner between alone.
            self.assertIs(wanted, are_never_above(((ZERO, pair(gap)), (FIVE, ONE)), one))
            self.assertIs(wanted, are_never_above(((ZERO, ZERO), (THREE, pair(1 + gap))), one))
            self.assertIs(wanted, are_never_above(((ZERO, (-1, 1)), (ONE, pair(Fraction(1, 2) + gap))), one))

    def test_above_only_behind_the_last_corners(self):
        one = ((ZERO, ZERO), (TWO, ONE))
        self.assertIs(False, are_never_above(((ZERO, ZERO), (THREE, ZERO), ((100, 1), TWO)), one))
        self.assertIs(True, are_never_above(((ZERO, ZERO), (THREE, ZERO), ((100, 1), ONE)), one))


class Areas(unittest.TestCase):
    def test_by_hand(self):
        self.assertEqual(ONE, area_between(EVEN, LATE, FOUR))
        self.assertEqual((-1, 1), area_between(LATE, FLAT, TWO))
        # 1 / 4 at 1 and 1 / 2 at 2, above nothing.
        self.assertEqual([(1, 8), HALF], [area_between(EVEN, LATE, last) for last in (ONE, TWO)])
        self.assertEqual((7, 8), area_between(EVEN, LATE, THREE))

    def test_up_to_0(self):
        for one, other in PAIRS:
            self.assertEqual(ZERO, area_between(one, other, ZERO))

    def test_behind_the_last_corner(self):
        self.assertEqual(ONE, area_between(EVEN, LATE, (1000, 1)))
        # 1 is lost up to 2, nothing from 2 to 4, and 1 / 2 is won at each moment behind.
        self.assertEqual((497, 1), area_between(LATE, FLAT, (1000, 1)))

    def test_opposite_sign(self):
        for one, other in PAIRS:
            for last in (HALF, THREE, (20, 1)):
                upper, lower = area_between(one, other, last)
                self.assertEqual((-upper, lower), area_between(other, one, last))

    def test_of_counts_and_themselves(self):
        for counts in SOME:
            self.assertEqual(ZERO, area_between(counts, counts, (20, 1)))

    def test_sum_over_all_time(self):
        for one, other in PAIRS:
            for last in (Fraction(1, 7), Fraction(2), Fraction(13, 3), Fraction(40)):
                # Between neighbours of these moments the gap is straight.
                inner = {number(moment) for counts in (one, other) for moment, _ in counts}
                moments = sorted({moment for moment in inner if moment < last} | {last})
                area = Fraction(0)
                for moment, following in zip(moments, moments[1:]):
                    middle = (moment + following) / 2
                    area += (following - moment) * (told(one, middle) - told(other, middle))
                self.assertEqual(pair(area), area_between(one, other, pair(last)))

    def test_grows_with_the_sum(self):
        for one, other in PAIRS:
            below = ((ZERO, ZERO),)
            parts = [number(area_between(counts, below, SIX)) for counts in (one, other, counts_sum(one, other))]
            self.assertEqual(parts[2], parts[0] + parts[1])

    def test_wrong_values(self):
        check_wrong_values(self, area_between, (LATE, EVEN, ONE), 0, InvalidCounts, WRONG + WRONG_COUNTS)
        check_wrong_values(self, area_between, (LATE, EVEN, ONE), 1, InvalidCounts, WRONG + WRONG_COUNTS)
        check_wrong_values(self, area_between, (LATE, EVEN, ONE), 2, InvalidMoment, WRONG + BELOW_ZERO)
        check_order(self, area_between, (LATE, EVEN, ONE), (InvalidCounts, InvalidCounts, InvalidMoment))


class LargeNumbers(unittest.TestCase):
    """Numbers that the package returned are taken, however many figures they have."""

    COUNTS = ((ZERO, ZERO), (pair(8 - 16 * TINY), pair(8 - 8 * TINY)), ((8, 1), (8, 1)))

    def large_moment(self):
        moment = FOUR
        for _ in range(18):
            moment = number_of(self.COUNTS, moment)
        return moment

    def test_numbers_of_numbers(self):
        moment = FOUR
        for _ in range(18):
            wanted = pair(told(self.COUNTS, number(moment)))
            moment = number_of(self.COUNTS, moment)
            self.assertTrue(wanted == moment)
        self.assertGreater(moment[1].bit_length(), 16000)
        self.assertTrue(moment == number_of(self.COUNTS, when(self.COUNTS, moment)))

    def test_counts_with_large_numbers(self):
        large = self.large_moment()
        later = later_counts(self.COUNTS, large)
        self.assertEqual([True, ZERO], [is_counts(later), number_of(later, large)])
        for call, reckon in ((least_counts, min), (greatest_counts, max)):
            found = call(later, EVEN)
            self.assertIs(True, is_counts(found))
            for moment, value in found:
                wanted = reckon(told(later, number(moment)), told(EVEN, number(moment)))
                self.assertTrue(wanted == number(value))
        self.assertIs(True, are_never_above(later, self.COUNTS))
        self.assertIs(False, are_never_above(self.COUNTS, later))
        area = area_between(self.COUNTS, later, large)
        self.assertTrue(area == area_between(counts_sum(self.COUNTS, EVEN), counts_sum(EVEN, later), large))
        self.assertTrue(area == area_between(self.COUNTS, ((ZERO, ZERO),), large))
        self.assertIsNone(when(EVEN, area))

    def test_errors_keep_them(self):
        large = self.large_moment()
        below = area_between(((ZERO, ZERO),), self.COUNTS, large)
        self.assertLess(below[0], 0)
        check_refused(self, InvalidMoment, below, number_of, EVEN, below)
        check_refused(self, InvalidMoment, below, later_counts, EVEN, below)
        check_refused(self, InvalidMoment, below, area_between, EVEN, LATE, below)
        wrong = later_counts(self.COUNTS, large)[1:]
        check_refused(self, InvalidCounts, wrong, when, wrong, ZERO)
        check_refused(self, InvalidNumber, wrong, when, EVEN, wrong)


class ArgumentsStay(unittest.TestCase):
    def test_wrong_ones(self):
        wrong = [[[0, 1], [0, 1]], [[4, 1], [1, 1]]]
        copy = [[list(part) for part in corner] for corner in wrong]
        check_refused(self, InvalidCounts, wrong, counts_sum, EVEN, wrong)
        self.assertIs(False, is_counts(wrong))
        self.assertEqual(copy, wrong)


if __name__ == "__main__":
    unittest.main()
