"""All functions of scenes, ways, pictures, cars, jams, bars, kinds compared and cells: their parameters and errors."""

import unittest
from fractions import Fraction
from inspect import signature

from roadwaves import bars, cars, cells, compares, jams, pictures, scenes, ways
from roadwaves.errors import (InvalidAmount, InvalidBars, InvalidBeginning, InvalidComings, InvalidIndex, InvalidKind,
                              InvalidMoment, InvalidNumber, InvalidPlace, InvalidRow, InvalidScene, InvalidSpeed,
                              InvalidWay)
from roadwaves.scenes import is_scene
from tests.scene_support import (EMPTY, FIVE, FOUR, HALF, LIGHT, ONE, RED, ROAD, SIX, STOP, STREET, THREE, TWO, ZERO,
                                 some_scenes)
from tests.support import (BELOW_ZERO, WRONG, check_order, check_refused, check_refused_at, check_wrong_values, nested,
                           number, pair, raised_by)

ROW = (ZERO, (-1, 1), (-2, 1), (-3, 1))
WAY = (("start", ZERO, ZERO), ("step", ONE, ONE))
LOT = (ROAD, FOUR, (STOP,))

# Each function with its parameters, valid arguments, and the error of each parameter.
FUNCTIONS = {
    scenes: [
        ("scene_of", "kind length beginning comings bars", STREET,
         (InvalidKind, InvalidAmount, InvalidBeginning, InvalidComings, InvalidBars)),
        ("start_number", "scene place", (STREET, ONE), (InvalidScene, InvalidPlace)),
        ("comings_number", "scene moment", (STREET, ONE), (InvalidScene, InvalidMoment)),
        ("all_cars", "scene", (STREET,), (InvalidScene,)),
        ("begun_anew", "scene moment", (STREET, ONE), (InvalidScene, InvalidMoment)),
    ],
    ways: [
        ("number_at", "scene place moment", (STREET, ONE, TWO), (InvalidScene, InvalidPlace, InvalidMoment)),
        ("way_to", "scene place moment", (STREET, ONE, TWO), (InvalidScene, InvalidPlace, InvalidMoment)),
        ("way_number", "scene way", (STREET, WAY), (InvalidScene, InvalidWay)),
        ("waiting_at", "scene moment", (STREET, TWO), (InvalidScene, InvalidMoment)),
        ("on_road", "scene moment", (STREET, TWO), (InvalidScene, InvalidMoment)),
    ],
    pictures: [
        ("counts_at", "scene place", (STREET, ONE), (InvalidScene, InvalidPlace)),
        ("states_at", "scene place", (STREET, ONE), (InvalidScene, InvalidPlace)),
        ("picture", "scene moment", (STREET, TWO), (InvalidScene, InvalidMoment)),
        ("fronts", "scene moment", (STREET, TWO), (InvalidScene, InvalidMoment)),
        ("seen_from", "scene place moment speed duration", (STREET, ONE, TWO, (-1, 4), THREE),
         (InvalidScene, InvalidPlace, InvalidMoment, InvalidSpeed, InvalidAmount)),
    ],
    cars: [
        ("passing", "scene car place", (STREET, ONE, TWO), (InvalidScene, InvalidNumber, InvalidPlace)),
        ("coming", "scene car", (STREET, ONE), (InvalidScene, InvalidNumber)),
        ("travel_time", "scene car", (STREET, ONE), (InvalidScene, InvalidNumber)),
        ("course", "scene car", (STREET, ONE), (InvalidScene, InvalidNumber)),
        ("last_out", "scene", (STREET,), (InvalidScene,)),
    ],
    jams: [
        ("jammed_places", "scene moment", (STREET, TWO), (InvalidScene, InvalidMoment)),
        ("jammed_moments", "scene place", (STREET, TWO), (InvalidScene, InvalidPlace)),
        ("is_jammed", "scene place moment", (STREET, TWO, TWO), (InvalidScene, InvalidPlace, InvalidMoment)),
        ("last_jam", "scene", (STREET,), (InvalidScene,)),
        ("jam_reach", "scene", (STREET,), (InvalidScene,)),
    ],
    bars: [
        ("bars_from", "kind length bars moment", LOT + (TWO,),
         (InvalidKind, InvalidAmount, InvalidBars, InvalidMoment)),
        ("needless_bars", "kind length bars", LOT, (InvalidKind, InvalidAmount, InvalidBars)),
        ("never_later", "kind length bars other", LOT + ((),),
         (InvalidKind, InvalidAmount, InvalidBars, InvalidBars)),
        ("parting_view", "kind length bars other", LOT + ((),),
         (InvalidKind, InvalidAmount, InvalidBars, InvalidBars)),
        ("longest_bar", "scene index last many", (STREET, 0, (10, 1), 10),
         (InvalidScene, InvalidIndex, InvalidMoment, InvalidNumber)),
    ],
    compares: [
        ("never_less", "kind other", (ROAD, ROAD), (InvalidKind, InvalidKind)),
        ("bare_density", "kind other", (ROAD, ROAD), (InvalidKind, InvalidKind)),
        ("parting_scene", "kind other length", (ROAD, ROAD, ONE), (InvalidKind, InvalidKind, InvalidAmount)),
    ],
    cells: [
        ("cells_fit", "kind dx dt", (ROAD, ONE, TWO), (InvalidKind, InvalidAmount, InvalidAmount)),
        ("cell_step", "kind dx dt row", (ROAD, ONE, TWO, ROW),
         (InvalidKind, InvalidAmount, InvalidAmount, InvalidRow)),
        ("true_step", "kind dx dt row", (ROAD, ONE, TWO, ROW),
         (InvalidKind, InvalidAmount, InvalidAmount, InvalidRow)),
        ("cell_run", "kind dx dt row count", (ROAD, ONE, TWO, ROW, 2),
         (InvalidKind, InvalidAmount, InvalidAmount, InvalidRow, InvalidNumber)),
        ("unlike_row", "kind dx dt", (ROAD, ONE, TWO), (InvalidKind, InvalidAmount, InvalidAmount)),
    ],
}
CALLS = [(getattr(module, row[0]), row[1].split(), row[2], row[3]) for module, rows in FUNCTIONS.items() for row in rows]

NO_SCENES = WRONG + [
    nested(14), STREET[:4], STREET + ((),), list(STREET), (LIGHT,), (ROAD[:2],) + STREET[1:],
    (ROAD, ZERO) + STREET[2:], (ROAD, FIVE) + STREET[2:], STREET[:2] + (EMPTY,) + STREET[3:],
    STREET[:2] + (((FOUR, FOUR),),) + STREET[3:], STREET[:3] + ((ZERO,), ()), STREET[:3] + (((-1, 1), ()), ()),
    STREET[:4] + ((STOP, STOP),), STREET[:4] + ([STOP],), STREET[:4] + ((RED[:4],),), STREET[:4] + (STOP,),
]
NO_INTEGERS = [value for value in WRONG if not isinstance(value, int) or isinstance(value, bool)]
# Wrong ones where each error is told by what was given; where they hang on the function, see below.
REFUSED = {
    InvalidKind: WRONG + [ROAD[:2], list(ROAD), ROAD[::-1]],
    InvalidAmount: WRONG + BELOW_ZERO + [ZERO],
    InvalidScene: NO_SCENES,
    InvalidPlace: WRONG + BELOW_ZERO + [(5, 1), (4 * 10 ** 300 + 1, 10 ** 300)],
    InvalidMoment: WRONG + BELOW_ZERO,
    InvalidSpeed: WRONG + [(-1, 1), TWO, (-1, 2), (-10 ** 390, 1), (10 ** 390, 1)],
    InvalidWay: WRONG + [WAY[1:], WAY[::-1], list(WAY), (WAY,), (list(WAY[0]),)],
    InvalidIndex: NO_INTEGERS + [1, -1, 10 ** 390, ZERO],
}
BY_INDEX = {
    InvalidBars: ([], None, 7, "bars", STOP[:0] + (5,), (STOP, STOP), (STOP, RED, STOP), (STOP[:4],)),
    InvalidBeginning: (None, [], (), ((FOUR, HALF), (FOUR, FOUR)), ((FOUR, HALF), (FOUR, HALF)), ((TWO, ONE),)),
    InvalidComings: (None, [], (), (ZERO,), (ZERO, []), (ZERO, ((ONE, ONE), (ONE, (-1, 1)))), (ZERO, (ONE,))),
    InvalidRow: (None, [], (ZERO,), (ZERO, ONE), (ZERO, ZERO, (-4, 1)), (ZERO, (-1, 1), 3), (ZERO,) * 41),
}
INDEXES = {
    InvalidBars: (None, None, None, None, 0, 1, 2, 0), InvalidBeginning: (None, None, None, 1, None, None),
    InvalidComings: (None, None, None, None, None, 1, 0), InvalidRow: (None, None, None, 1, 2, 2, None),
}
NUMBERS = {
    "car": WRONG + [(31, 10), (-21, 10), (10 ** 390, 1)], "many": NO_INTEGERS + [0, -1, 1000001, 10 ** 390, ONE],
    "count": NO_INTEGERS + [-1, 21, 10 ** 390, ONE],
}


class Interface(unittest.TestCase):
    def test_names_of_functions_and_parameters(self):
        for module, rows in FUNCTIONS.items():
            for name, parameters, _, _ in rows:
                with self.subTest(name=name):
                    function = getattr(module, name)
                    self.assertEqual(module.__name__, function.__module__)
                    self.assertEqual(parameters.split(), list(signature(function).parameters))

    def test_is_scene(self):
        self.assertEqual("roadwaves.scenes", is_scene.__module__)
        self.assertEqual(["value"], list(signature(is_scene).parameters))
        self.assertIs(True, is_scene(value=STREET))

    def test_arguments_by_name_and_equal_calls(self):
        for call, parameters, values, _ in CALLS:
            with self.subTest(call=call.__name__):
                found = call(*values)
                self.assertEqual(found, call(**dict(reversed(list(zip(parameters, values))))))
                self.assertEqual(found, call(*values))

    def test_arguments_partly_by_name(self):
        for call, parameters, values, _ in CALLS:
            for at in range(len(values)):
                named = dict(zip(parameters[at:], values[at:]))
                self.assertEqual(call(*values), call(*values[:at], **named))


class Errors(unittest.TestCase):
    def test_told_by_what_was_given(self):
        for call, _, values, errors in CALLS:
            for at, error in enumerate(errors):
                if error in REFUSED:
                    check_wrong_values(self, call, values, at, error, REFUSED[error])

    def test_numbers(self):
        for call, parameters, values, errors in CALLS:
            for at, error in enumerate(errors):
                if error is InvalidNumber:
                    check_wrong_values(self, call, values, at, error, NUMBERS[parameters[at]])

    def test_told_by_index(self):
        for call, parameters, values, errors in CALLS:
            for at, error in enumerate(errors):
                if error not in BY_INDEX:
                    continue
                for value, index in zip(BY_INDEX[error], INDEXES[error]):
                    passed = values[:at] + (value,) + values[at + 1:]
                    with self.subTest(call=call.__name__, value=value):
                        check_refused_at(self, error, index, call, *passed)
                        check_refused_at(self, error, index, call, **dict(zip(parameters, passed)))

    def test_wrong_values_in_the_place_of_tuples(self):
        for call, _, values, errors in CALLS:
            for at, error in enumerate(errors):
                if error not in BY_INDEX:
                    continue
                for which, value in enumerate(WRONG + [nested(14)]):
                    # () is bars, and comings only where it is a pair.
                    if value == () and error is InvalidBars:
                        continue
                    with self.subTest(call=call.__name__, which=which):
                        found = raised_by(call, *values[:at], value, *values[at + 1:])
                        self.assertIs(error, found.__class__)
                        if not isinstance(value, tuple):
                            self.assertIsNone(found.index)

    def test_the_first_of_several(self):
        for call, _, values, errors in CALLS:
            check_order(self, call, values, errors)

    def test_off_the_end_of_the_road(self):
        # The duration is looked at ahead of the end of the road.
        for speed in ((-1, 1), TWO):
            check_refused(self, InvalidAmount, ZERO, pictures.seen_from, STREET, ONE, TWO, speed, ZERO)
            check_refused(self, InvalidSpeed, speed, pictures.seen_from, STREET, ONE, TWO, speed, TWO)
        check_refused(self, InvalidSpeed, ONE, pictures.seen_from, STREET, FOUR, ONE, ONE, (1, 10 ** 300))
        self.assertIsNone(raised_by(pictures.seen_from, STREET, ONE, TWO, ONE, THREE))
        self.assertIsNone(raised_by(pictures.seen_from, STREET, ONE, TWO, (-1, 3), THREE))


class NumbersOfAnySize(unittest.TestCase):
    def test_what_was_returned_may_be_passed(self):
        for scene in some_scenes(5, 8):
            last = cars.last_out(scene)
            self.assertEqual(scenes.all_cars(scene), ways.number_at(scene, scene[1], last))
            for part in (3, 7, 10 ** 400 + 1):
                moment = pair(number(last) / part)
                later = scenes.begun_anew(scene, moment)
                self.assertIs(True, is_scene(later))
                self.assertEqual(number(last) - number(moment), number(cars.last_out(later)))
                told = number(scenes.all_cars(scene)) - number(ways.number_at(scene, ZERO, moment))
                self.assertEqual(told, number(ways.number_at(later, later[1], cars.last_out(later))))

    def test_great_and_small_numbers(self):
        # One who waits comes to a red light at the end; in units of time and place that differ by a great power.
        for unit in (Fraction(10) ** 390, Fraction(1, 10 ** 390), Fraction(3) ** 600, Fraction(1, 3 ** 600)):
            kind = tuple((pair(number(density) / unit), pair(number(flow) / unit)) for density, flow in ROAD)
            up = pair(unit)
            scene = (kind, up, ((up, ZERO),), (ONE, ()), ((up, ZERO, ZERO, pair(2 * unit), ZERO),))
            self.assertEqual(ZERO, ways.number_at(scene, up, pair(2 * unit)))
            self.assertEqual(pair(unit * 5 / 2), cars.passing(scene, HALF, up))
            # Once the last one stands, one car of three times the density stands on a third of the road.
            self.assertEqual(((pair(unit * 2 / 3), up),), jams.jammed_places(scene, pair(unit * 2)))


class NothingIsChanged(unittest.TestCase):
    def test_arguments_stay_as_they_are(self):
        for call, _, values, _ in CALLS:
            kept = repr(values)
            call(*values)
            self.assertEqual(kept, repr(values))

    def test_results_are_tuples_all_through(self):
        def check(value):
            self.assertIn(value.__class__, (tuple, int, bool, str, type(None)))
            if isinstance(value, tuple):
                for part in value:
                    check(part)
        for call, _, values, _ in CALLS:
            check(call(*values))
        check(bars.parting_view(*LOT, ()))
        check(cells.unlike_row(ROAD, ONE, ONE))
        check(compares.parting_scene(ROAD, ((ZERO, ZERO), (ONE, TWO), (SIX, ZERO)), ONE))


if __name__ == "__main__":
    unittest.main()
