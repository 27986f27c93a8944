"""The checker: papers that show their claims, papers and claims bent in one place, and whatever else it is asked."""

import unittest
from fractions import Fraction

from roadwaves.certificates import (certify_bars, certify_book, certify_cells, certify_jam, certify_kinds, certify_number,
                                    certify_number_range, certify_passing, certify_rims)
from roadwaves.checker import accepts
from roadwaves.ways import number_at, way_to
from tests.claim_support import EXCLUDED, bent, is_claim, is_right
from tests.rim_support import BOOK, BROAD, EARLY, FEW, SEEN, SHUT, THROUGH
from tests.scene_support import (CROWD, FIVE, FOUR, HALF, LEADER, LIGHT, NARROW, ONE, ROAD, SIX, STOP, STREET, THREE,
                                 TWO, ZERO, random_point, some_scenes)
from tests.support import WRONG, nested, number, pair, random_source

FREE = LIGHT[:4] + ((),)
WIDE = ROAD[:2] + ((FOUR, ZERO),)
CLASH, SIGHTS = (SEEN, FEW), (SEEN, BROAD)
WAY = (("start", ZERO, ZERO), ("step", ONE, ONE), ("ride", ONE, THREE), ("step", ONE, FOUR))
BARS = (ROAD, FOUR, (STOP,), (STOP[:3] + (ONE, ZERO),))
# For each claim the papers that its certificate makes.
GOOD = [
    certify_number(LIGHT, ONE, FOUR, ONE), certify_number(LIGHT, ONE, FOUR, HALF),
    certify_number(LEADER, ONE, FOUR, (3, 2)), certify_passing(STREET, ZERO, TWO, (7, 2)),
    certify_passing(STREET, ZERO, TWO, THREE), certify_passing(CROWD, TWO, ONE, THREE), certify_jam(STREET), certify_jam(NARROW),
    certify_jam(FREE), certify_bars(*BARS), certify_bars(ROAD, FOUR, (), (STOP,)), certify_bars(ROAD, FOUR, (STOP,), ()),
    certify_kinds(ROAD, WIDE), certify_kinds(WIDE, ROAD), certify_cells(ROAD, ONE, TWO), certify_cells(ROAD, ONE, ONE),
    certify_rims(THROUGH), certify_rims(SHUT), certify_rims(EARLY), certify_book(BOOK, SIGHTS), certify_book(BOOK, CLASH),
    certify_number_range(BOOK, SIGHTS, ONE, TWO, HALF, ONE), certify_number_range(BOOK, SIGHTS, ONE, TWO, HALF, (3, 4)),
]


class Accepted(unittest.TestCase):
    def check(self, expected, claim, paper):
        """What the checker tells, which is True or False itself."""
        self.assertIs(expected, accepts(claim, paper), (claim, paper))
        self.assertIs(expected, accepts(paper=paper, claim=claim))
        self.assertIs(expected, is_right(claim, paper), (claim, paper))


class Papers(Accepted):
    def test_each_claim_has_one(self):
        self.assertEqual(set(EXCLUDED), {claim[0] for claim, _ in GOOD})
        for claim, paper in GOOD:
            self.check(True, claim, paper)

    def test_bent_in_one_place(self):
        source = random_source(151)
        found = {False: 0, True: 0}
        for claim, paper in GOOD:
            for other in bent(source, paper):
                expected = is_right(claim, other)
                found[expected] += 1
                self.assertIs(expected, accepts(claim, other), (claim, other))
        self.assertTrue(found[False] > 1000 and found[True] > 20, found)

    def test_where_none_is_told_nothing_else_is_accepted(self):
        for claim, paper in GOOD:
            if paper == ():
                for other in WRONG + [[], (ZERO,), ((),), "", nested(14), None, WAY, (ONE, TWO)]:
                    if other.__class__ is not tuple or other:
                        self.assertIs(False, accepts(claim, other))
            else:
                self.check(False, claim, ())

    def test_other_ways(self):
        claim = ("at most", LIGHT, ONE, FOUR, (3, 2))
        for paper in (WAY, (("start", ZERO, THREE), ("step", ONE, FOUR)), (("start", ZERO, ZERO), ("step", ONE, FOUR))[:1] + WAY[1:],
                      WAY + (("step", ONE, FOUR),), WAY[:1] + (("step", HALF, HALF),) + WAY[1:],
                      WAY[:2] + (("ride", ONE, TWO),) + WAY[2:], way_to(LIGHT, ONE, FOUR)):
            self.check(True, claim, paper)
        # A way to somewhere else, no way, a way whose number is too great, and a list.
        for paper in (WAY[:3], WAY[1:], (("start", ONE, FOUR),), WAY[:2] + (("ride", ONE, FOUR),), list(WAY),
                      (("start", ZERO, ZERO), ("step", ONE, FOUR)), WAY[:1] + (("ride", ONE, ONE),) + WAY[2:],
                      WAY + (("ride", ONE, FOUR),), WAY[::-1], ((b"start",) + WAY[0][1:],) + WAY[1:]):
            self.check(False, claim, paper)
        self.check(False, claim[:4] + (HALF,), WAY)
        self.check(True, ("not yet", LIGHT, (5, 4), ONE, FOUR), WAY)
        self.check(False, ("not yet", LIGHT, ONE, ONE, FOUR), WAY)

    def test_other_papers_for_jams_views_densities_and_rows(self):
        for place, moment, expected in ((TWO, ONE, False), ((9, 5), TWO, True), (TWO, TWO, True), ((3, 2), TWO, False),
                                        ((4, 3), (13, 3), False), ((8, 5), THREE, True), (FIVE, TWO, False), (TWO, (-1, 1), False)):
            self.check(expected, ("ever jammed", STREET), (place, moment))
        view = (ONE, ((FOUR, ONE),), (ZERO, ((ONE, ONE),)), TWO, (3, 2))
        shorter = BARS[3]
        for paper, expected in ((view, True), (view[:4] + (ONE,), False), (view[:4] + (TWO,), True), (view[:3] + (ONE, TWO), False),
                                ((TWO,) + view[1:4] + (ONE,), True), ((FOUR,) + view[1:], False), (view[:3] + (THREE, TWO), False),
                                (view[:3] + (FOUR, FIVE), True), (view[:1] + (((FOUR, ZERO),), (ZERO, ())) + view[3:], False)):
            self.check(expected, ("later", ROAD, FOUR, (STOP,), shorter), paper)
            self.check(False, ("later", ROAD, FOUR, shorter, (STOP,)), paper)
        for density, expected in ((TWO, True), (ONE, False), ((11, 10), True), (THREE, True), ((301, 100), False), (FOUR, False),
                                  (ZERO, False), ((-1, 1), False)):
            self.check(expected, ("less", ROAD, WIDE), density)
        for row, expected in (((ZERO, (-1, 2), (-1, 1), (-3, 2)), False), ((ZERO, (-2, 1), (-4, 1)), True), ((ZERO, (-2, 1)), False),
                              ((ZERO, (-1, 1), (-4, 1)), True), ((ZERO, (-4, 1), (-5, 1)), False), ((ZERO, ONE, ZERO), False)):
            self.check(expected, ("cells unlike", ROAD, ONE, ONE), row)
            self.check(False, ("cells unlike", ROAD, ONE, TWO), row)

    def test_other_pairs_numbers_and_weights(self):
        one, other = (ZERO, ZERO), (TWO, TWO)
        for pairs, expected in (((one, other), True), (((ZERO, (-1, 1)), other), False), ((other, one), False), ((one, one), False),
                                (((ONE, ONE), other), False), (((HALF, ZERO), other), False), ((((1, 4), ZERO), other), True), (((ZERO, (1, 10)), (TWO, (21, 10))), True),
                                ((one, (TWO, FOUR)), False), ((one,), False), ((one, other, other), False)):
            self.check(expected, ("can't be", EARLY), pairs)
            self.check(False, ("can't be", THROUGH), pairs)
        for numbers, expected in (((HALF, ZERO, HALF, ZERO), True), (((3, 4), ZERO, HALF, ZERO), True), ((ONE, ZERO, HALF, ZERO), True),
                                  ((HALF, ZERO, HALF), False), (((1, 3), ZERO, HALF, ZERO), False)):
            self.check(expected, ("fits", BOOK, SIGHTS), numbers)
            self.check(False, ("fits", BOOK, CLASH), numbers)
            self.check(expected and numbers[0] != HALF, ("not sure", BOOK, SIGHTS, ONE, TWO, ZERO, HALF), numbers)
            self.check(expected and numbers[0] == HALF, ("not sure", BOOK, SIGHTS, ONE, TWO, (51, 100), ONE), numbers)
        step = ("step", (ZERO, TWO), (TWO, FOUR))
        # As many went out by 4 as came in by 2, at most: so 2 r >= 2 o; seen: 2 o >= 1; few: 4 r <= 1.
        weights = ((step, TWO), (("over", 0), TWO), (("under", 1), ONE), (("most", 1), FOUR))
        zero = ((("least", 3), ONE), (("most", 3), ONE))
        still = (("step", (ONE, ZERO), (ONE, ZERO)), (7, 2))
        for paper, expected in ((weights[:3], None), (weights, None), (weights[:3] + (still,), None), (weights[:2], False), (zero, False),
                                (weights[:3] + weights[:1], False), (weights[:3] + zero, None), (weights[:3][::-1], None)):
            expected = is_right(("clash", BOOK, CLASH), paper) if expected is None else expected
            self.check(expected, ("clash", BOOK, CLASH), paper)
            self.check(False, ("clash", BOOK, SIGHTS), paper)
        found = dict(certify_book(BOOK, CLASH)[1])
        for factor in (Fraction(2), Fraction(1, 7), Fraction(10) ** 30):
            self.check(True, ("clash", BOOK, CLASH), tuple((one, pair(number(told) * factor)) for one, told in found.items()))
        paper = tuple(found.items())
        self.check(True, ("clash", BOOK, CLASH), paper + (still,))
        self.check(True, ("clash", BOOK, CLASH), paper[::-1] + (still,))
        self.check(False, ("clash", BOOK, CLASH), paper + (still, still))
        for other in ((still[0], ZERO), (still[0], (-1, 1)), ((), ONE), (None, ONE), (("least",), ONE), still[:1], (("least", (0,)), ONE),
                      (("least", True), ONE), (("least", 10 ** 390), ONE), (("over", 2), ONE), (("most", -1), ONE), ("least", ONE)):
            self.check(False, ("clash", BOOK, CLASH), paper + (other,))
        self.check(False, ("clash", BOOK, CLASH), paper + paper[:1])
        self.check(False, ("clash", BOOK, CLASH), paper + ((("step", (ONE, ZERO), (ONE, ONE)), ONE),))


class Claims(Accepted):
    def test_bent_in_one_place(self):
        source = random_source(152)
        found = {False: 0, True: 0}
        for claim, paper in GOOD:
            for other in bent(source, claim):
                expected = is_right(other, paper)
                found[expected] += 1
                self.assertIs(expected, accepts(other, paper), (other, paper))
        self.assertTrue(found[False] > 1500 and found[True] > 200, found)

    def test_each_part_wrong(self):
        for claim, paper in GOOD:
            for at in range(len(claim)):
                for value in WRONG + [nested(13)]:
                    other = claim[:at] + (value,) + claim[at + 1:]
                    if not is_claim(other):
                        self.assertIs(False, accepts(other, paper))
            for other in (claim[:-1], claim + (ONE,), claim + ((),), list(claim), (claim,), claim[1:], claim[::-1],
                          (claim[0] + " ",) + claim[1:], (claim[0].upper(),) + claim[1:], ((claim[0],),) + claim[1:],
                          ([claim[0]],) + claim[1:], (claim[0].encode(),) + claim[1:], (None,) + claim[1:], ("",) + claim[1:]):
                self.assertIs(False, accepts(other, paper))

    def test_parts_out_of_bounds(self):
        for claim in (("more", LIGHT, THREE, FOUR, (-9, 1)), ("more", LIGHT, ONE, (-1, 1), (-9, 1)), ("more", LIGHT[:4], ONE, ONE, (-9, 1)),
                      ("gone by", LIGHT, THREE, ONE, (99, 1)), ("gone by", LIGHT, (-1, 1), ONE, FOUR), ("gone by", LIGHT, ONE, THREE, SIX),
                      ("never later", ROAD, ZERO, (), ()), ("never later", ROAD, ONE, (STOP,), (STOP,)), ("never later", ROAD, FOUR, (), (STOP,) * 2),
                      ("cells fit", ROAD, ZERO, ONE), ("cells fit", ROAD, ONE, (-2, 1)), ("can be", THROUGH[:5] + (THREE,)),
                      ("never less", ROAD, ROAD[:2]), ("sure", BOOK, SIGHTS, THREE, TWO, (-9, 1), (9, 1)),
                      ("sure", BOOK, SIGHTS, ONE, FIVE, (-9, 1), (9, 1)), ("sure", BOOK, CLASH, ONE, TWO, (-9, 1), (9, 1)),
                      ("sure", BOOK, (), ONE, TWO, (-9, 1), (9, 1)), ("sure", BOOK, (SEEN,) * 7, ONE, TWO, (-9, 1), (9, 1)),
                      ("sure", BOOK, SIGHTS, ONE, TWO, ONE, HALF), ("never jammed", FREE[:3] + ((ZERO, ()), [])),
                      ("sure", BOOK, SIGHTS, ONE, TWO, (2, 4), ONE)):
            self.check(False, claim, ())
        for claim, expected in ((("sure", BOOK, SIGHTS, ONE, TWO, (-9, 1), (9, 1)), True), (("never later", ROAD, FOUR, (), ()), True),
                                (("more", LIGHT, ONE, FOUR, (-9, 1)), True), (("gone by", LIGHT, TWO, TWO, SIX), True),
                                (("cells fit", ROAD, (1, 3), (2, 3)), True), (("sure", BOOK, SIGHTS, ONE, TWO, HALF, ONE), True),
                                (("gone by", LIGHT, TWO, TWO, (599, 100)), False), (("never jammed", LIGHT), False)):
            self.check(expected, claim, ())

    def test_anything(self):
        values = WRONG + [nested(14), (), ("at most",), ("can be", ()), ("fits", [], {}), "can be", ["can be", THROUGH], WAY, [(())]]
        values += [{"can be": THROUGH}, ("can be",) * 2, ("never jammed", None), ("clash", BOOK, CLASH, ()), THROUGH, BOOK, LIGHT]
        for claim in values:
            for paper in values:
                self.assertIs(False, accepts(claim, paper))
        for claim, good in GOOD:
            for paper in values:
                if paper.__class__ is not tuple or paper:
                    self.assertIs(is_right(claim, paper), accepts(claim, paper))

    def test_of_two_that_exclude_one_another_at_most_one(self):
        papers = [paper for _, paper in GOOD] + [(), WAY]
        for claim, paper in GOOD:
            other = (EXCLUDED[claim[0]],) + claim[1:]
            for one in papers:
                self.assertIs(False, accepts(other, one))
                self.assertIs(is_right(claim, one), accepts(claim, one))

    def test_random_numbers(self):
        source = random_source(153)
        for scene in some_scenes(154, 10):
            place, moment = random_point(source, scene)
            told, way = number_at(scene, place, moment), way_to(scene, place, moment)
            for change in (Fraction(0), Fraction(1, 10 ** 12), Fraction(-1, 10 ** 12)):
                fraction = pair(number(told) + change)
                self.check(change >= 0, ("at most", scene, place, moment, fraction), way)
                self.check(change < 0, ("more", scene, place, moment, fraction), ())


class Nothing(unittest.TestCase):
    def test_arguments_stay_as_they_are(self):
        for claim, paper in GOOD:
            kept = repr((claim, paper))
            accepts(claim, paper)
            self.assertEqual(kept, repr((claim, paper)))

    def test_lists_in_the_place_of_tuples(self):
        for claim, paper in GOOD:
            if paper:
                self.assertIs(False, accepts(claim, list(paper)))
            self.assertIs(False, accepts(list(claim), paper))


if __name__ == "__main__":
    unittest.main()
