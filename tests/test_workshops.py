"""Workshops: scenes under names, wishes that always hold, changes and taking them back, trials."""

import unittest
from fractions import Fraction

from roadwaves.cars import last_out
from roadwaves.errors import (Broken, InUse, InvalidIndex, InvalidName, InvalidScene, InvalidWish, NothingToUndo, RoadError,
                              UnknownName)
from roadwaves.jams import jammed_moments
from roadwaves.scenes import all_cars
from roadwaves.waits import time_spent
from roadwaves.workshops import Workshop
from roadwaves.ways import number_at
from tests.scene_support import (CROWD, FOUR, HALF, LIGHT, NARROW, ONE, ROAD, SIX, STREET, THREE, TWO, ZERO,
                                 some_scenes)
from tests.support import (WRONG, check_refused, check_refused_at, nested, number, pair, raised_by,
                           random_source)

# Scenes of which all is known: the light lets go by what the free road lets go by two earlier.
FREE = LIGHT[:4] + ((),)
NO_NAMES = [value for value in WRONG if value != "no"] + ["", "Main", "main ", " main", "a1", "a_b", "ab-c", "mainmainmainm", "a" * 13, b"main", ["a"], ("a",),
                    ("main",), "a.b", "ZERO", "a\nb", "\u00e4"]
WISH = ("passed", "main", ONE, FOUR, ONE)
NO_WISHES = NO_NAMES + [
    "main", (), (WISH,), WISH[:4], WISH + (ONE,), list(WISH), ("passed", "main", ONE, FOUR), ("past", "main", ONE, FOUR, ONE),
    ("passed", "Main", ONE, FOUR, ONE), ("passed", "", ONE, FOUR, ONE), ("passed", "a" * 13, ONE, FOUR, ONE),
    ("passed", None, ONE, FOUR, ONE), ("passed", ["main"], ONE, FOUR, ONE), ("passed", "main", (-1, 1), FOUR, ONE),
    ("passed", "main", ONE, (-1, 1), ONE), ("passed", "main", ONE, (2, 4), ONE), ("passed", "main", ONE, FOUR, 1),
    ("passed", "main", ONE, FOUR, None), ("passed", "main", 1, FOUR, ONE), (b"passed", "main", ONE, FOUR, ONE),
    (["clear"], "main", ONE), ("clear", "main"), ("clear", "main", ONE, ONE), ("clear", "main", (-1, 2)),
    ("clear", "main", ONE, FOUR, ONE), ("clear", "main", None), ("clear", 7, ONE), ("Clear", "main", ONE), (None, "main", ONE),
    ("out", "main"), ("out", "main", (-1, 1)), ("out", "main", True), ("out", "main", ONE, ONE), ("out", "x y", ONE),
    ("out", "main", ONE, FOUR, ONE), ("spent", "main"), ("spent", "main", (1, 0)), ("spent", "main", "1/2"),
    ("spent", "main", ONE, TWO), ("spent", ("main",), ONE), ("spent", "main", (True, 1)), ("passed", "main", ONE),
    ("names", "main", ONE), nested(14),
]


def state_of(shop):
    """All that a workshop tells of itself."""
    return len(shop), shop.names, shop.wishes, [shop.named(name) for name in shop.names]


class Changes(unittest.TestCase):
    def setUp(self):
        self.shop = Workshop()

    def check_nothing_changes(self, error, deed, *values, given=None, index=None):
        """A deed has to be refused, and to change nothing."""
        kept = state_of(self.shop)
        if index is not None:
            check_refused_at(self, error, index, deed, *values)
        else:
            check_refused(self, error, given if given is not None else values[0], deed, *values)
        self.assertEqual(kept, state_of(self.shop))

    def test_new_ones(self):
        self.assertEqual((0, (), (), []), state_of(self.shop))
        self.assertIs(True, bool(self.shop))
        other = Workshop()
        self.assertTrue(self.shop == self.shop and not self.shop != self.shop)
        self.assertFalse(self.shop == other or not self.shop != other)
        for value in WRONG:
            self.assertFalse(self.shop == value)
            self.assertTrue(self.shop != value)
        other.put("main", LIGHT)
        self.assertEqual((0, (), (), []), state_of(self.shop))

    def test_put_drop_and_named(self):
        self.assertIsNone(self.shop.put("main", LIGHT))
        self.assertIsNone(self.shop.put(scene=STREET, name="abcdefghijkl"))
        self.assertIsNone(self.shop.put("z", CROWD))
        self.assertEqual((3, ("abcdefghijkl", "main", "z"), (), [STREET, LIGHT, CROWD]), state_of(self.shop))
        self.assertIs(LIGHT, self.shop.named(name="main"))
        self.shop.put("main", CROWD)
        self.assertIs(CROWD, self.shop.named("main"))
        self.assertIsNone(self.shop.drop("main"))
        self.assertIsNone(self.shop.drop(name="z"))
        self.assertEqual((6, ("abcdefghijkl",), (), [STREET]), state_of(self.shop))
        self.assertIs(True, bool(self.shop))

    def test_in(self):
        self.shop.put("main", LIGHT)
        self.assertIs(True, "main" in self.shop)
        for value in NO_NAMES + ["mai", "maina"]:
            self.assertIs(False, value in self.shop)
        self.shop.drop("main")
        self.assertIs(False, "main" in self.shop)

    def test_wrong_names_and_scenes(self):
        self.shop.put("main", LIGHT)
        for value in NO_NAMES:
            self.check_nothing_changes(InvalidName, self.shop.put, value, LIGHT, given=value)
            self.check_nothing_changes(InvalidName, self.shop.put, value, None, given=value)
            check_refused(self, InvalidName, value, self.shop.put, scene=[], name=value)
            for deed in (self.shop.drop, self.shop.named):
                check_refused(self, UnknownName, value, deed, value)
                check_refused(self, UnknownName, value, deed, name=value)
        for value in WRONG + [LIGHT[:4], list(LIGHT), nested(14), ROAD]:
            check_refused(self, InvalidScene, value, self.shop.put, "main", value)
            check_refused(self, InvalidScene, value, self.shop.put, scene=value, name="main")
        for deed in (self.shop.drop, self.shop.named):
            self.check_nothing_changes(UnknownName, deed, "mains")
        self.assertEqual((1, ("main",), (), [LIGHT]), state_of(self.shop))

    def test_wishes_are_kept_as_they_were_passed(self):
        self.shop.put("main", LIGHT)
        wishes = (WISH, ("clear", "main", TWO), ("out", "main", (7, 1)), ("spent", "main", (10 ** 30, 7)))
        for many, wish in enumerate(wishes):
            self.assertIsNone(self.shop.wish(wish))
            self.assertEqual(many + 2, len(self.shop))
        self.assertIsNone(self.shop.wish(wish=wishes[1]))
        self.assertEqual(wishes + (wishes[1],), self.shop.wishes)
        self.assertIs(WISH, self.shop.wishes[0])
        self.assertIsNone(self.shop.lift(1))
        self.assertIsNone(self.shop.lift(index=0))
        self.assertEqual(wishes[2:] + (wishes[1],), self.shop.wishes)
        self.assertEqual(8, len(self.shop))

    def test_wrong_wishes(self):
        self.shop.put("main", LIGHT)
        for value in NO_WISHES:
            check_refused(self, InvalidWish, value, self.shop.wish, value)
            check_refused(self, InvalidWish, value, self.shop.wish, wish=value)
        for wish in (("passed", "other", ONE, FOUR, ONE), ("clear", "m", ZERO), ("out", "mainz", ZERO), ("spent", "x", ZERO)):
            self.check_nothing_changes(UnknownName, self.shop.wish, wish, given=wish[1])
        for value in [one for one in WRONG if not isinstance(one, int) or isinstance(one, bool)] + [0, 1, -1, 10 ** 30]:
            check_refused(self, InvalidIndex, value, self.shop.lift, value)
        self.shop.wish(WISH)
        for value in (1, -1, True, False, (0, 1), "0"):
            self.check_nothing_changes(InvalidIndex, self.shop.lift, value, given=value)
        self.assertEqual((2, ("main",), (WISH,), [LIGHT]), state_of(self.shop))

    def test_just_holding_and_just_not(self):
        small = Fraction(1, 10 ** 30)
        for scene in [LIGHT, STREET, CROWD, NARROW, FREE] + some_scenes(111, 8)[-8:]:
            self.shop.put("main", scene)
            place, moment = pair(number(scene[1]) / 3), (5, 2)
            told, spent, out = number_at(scene, place, moment), time_spent(scene), last_out(scene)
            for wish, less in ((("passed", "main", place, moment, told), ("passed", "main", place, moment,
                                                                          pair(number(told) + small))),
                               (("spent", "main", spent), ("spent", "main", pair(number(spent) - small))),
                               (("out", "main", out), ("out", "main", pair(number(out) - small)))):
                many = len(self.shop.wishes)
                # Nobody can be out before the moment 0.
                error = InvalidWish if less[0] == "out" and out == ZERO else Broken
                if error is Broken:
                    self.check_nothing_changes(Broken, self.shop.wish, less, index=many)
                self.shop.wish(wish)
            for place in (ZERO, place, scene[1]):
                many = len(self.shop.wishes)
                if jammed_moments(scene, place) == ():
                    self.shop.wish(("clear", "main", place))
                else:
                    self.check_nothing_changes(Broken, self.shop.wish, ("clear", "main", place), index=many)
            # No place of the road, however few were to have passed there.
            far = pair(number(scene[1]) + small)
            many = len(self.shop.wishes)
            self.check_nothing_changes(Broken, self.shop.wish, ("clear", "main", far), index=many)
            self.check_nothing_changes(Broken, self.shop.wish, ("passed", "main", far, TWO, (-100, 1)), index=many)
            self.shop = Workshop()

    def test_the_first_wish_that_would_not_hold(self):
        self.shop.put("main", FREE)
        self.shop.put("other", FREE)
        wishes = [("out", "other", SIX), ("out", "main", (100, 1)), ("passed", "main", ONE, FOUR, (3, 2)),
                  ("out", "main", SIX), ("clear", "main", ONE), ("passed", "main", ONE, THREE, ONE)]
        for wish in wishes:
            self.shop.wish(wish)
        self.check_nothing_changes(Broken, self.shop.put, "main", LIGHT, index=2)
        self.shop.lift(2)
        self.check_nothing_changes(Broken, self.shop.put, "main", LIGHT, index=3)
        self.shop.lift(3)
        self.check_nothing_changes(Broken, self.shop.put, "main", LIGHT, index=3)
        # On a shorter road the place is none; on a longer one four who wait are not out by the moment 6.
        late = FREE[:3] + ((FOUR, ()), ())
        self.check_nothing_changes(Broken, self.shop.put, "main", (ROAD, HALF, ((HALF, ZERO),)) + late[3:], index=3)
        self.check_nothing_changes(Broken, self.shop.put, "other", (ROAD, FOUR, ((FOUR, ZERO),)) + late[3:], index=0)
        self.shop.lift(3)
        self.assertIsNone(self.shop.put("main", LIGHT))
        self.check_nothing_changes(InUse, self.shop.drop, "main", index=1)
        self.check_nothing_changes(InUse, self.shop.drop, "other", index=0)
        self.shop.lift(0)
        self.assertIsNone(self.shop.drop("other"))
        self.check_nothing_changes(InUse, self.shop.drop, "main", index=0)

    def test_undo_of_each_deed(self):
        states = [state_of(self.shop)]
        deeds = [lambda: self.shop.put("main", FREE), lambda: self.shop.put("other", STREET),
                 lambda: self.shop.wish(("out", "main", SIX)), lambda: self.shop.wish(("clear", "other", THREE)),
                 lambda: self.shop.wish(("clear", "other", THREE)), lambda: self.shop.put("main", FREE),
                 lambda: self.shop.put("main", LIGHT), lambda: self.shop.lift(1), lambda: self.shop.lift(1),
                 lambda: self.shop.drop("other"), lambda: self.shop.put("a", CROWD), lambda: self.shop.lift(0),
                 lambda: self.shop.drop("main")]
        for deed in deeds:
            self.assertIsNone(deed())
            states.append(state_of(self.shop))
        self.assertEqual(list(range(len(deeds) + 1)), [state[0] for state in states])
        for state in states[-2::-1]:
            self.assertIsNone(self.shop.undo())
            self.assertEqual(state, state_of(self.shop))
        for _ in range(2):
            self.assertIs(NothingToUndo, raised_by(self.shop.undo).__class__)
            self.assertEqual(states[0], state_of(self.shop))

    def test_wishes_hold_after_each_change(self):
        source = random_source(112)
        scenes = some_scenes(113, 6)
        refused = 0
        for _ in range(250):
            kept = state_of(self.shop)
            name, other = source.choice("abc"), source.choice(scenes)
            scene = self.shop.named(name) if name in self.shop else other
            fraction = pair(Fraction(source.randint(0, 40), 4))
            deed, values = source.choice([
                (self.shop.put, (name, other)), (self.shop.put, (name, other)), (self.shop.drop, (name,)),
                (self.shop.lift, (source.randint(0, 3),)), (self.shop.undo, ()),
                (self.shop.wish, (("passed", name, ONE, fraction, source.choice([ZERO, ONE, (-1, 1)])),)),
                (self.shop.wish, (("clear", name, pair(number(scene[1]) / 2)),)), (self.shop.wish, (("out", name, fraction),)),
                (self.shop.wish, (("spent", name, pair(number(fraction) * 4)),))])
            error = raised_by(deed, *values)
            if error is not None:
                self.assertIsInstance(error, RoadError)
                self.assertEqual(kept, state_of(self.shop))
                refused += 1
            elif deed == self.shop.undo:
                self.assertEqual(kept[0] - 1, len(self.shop))
            else:
                self.assertEqual(kept[0] + 1, len(self.shop))
                changed = state_of(self.shop)
                self.shop.undo()
                self.assertEqual(kept, state_of(self.shop))
                deed(*values)
                self.assertEqual(changed, state_of(self.shop))
            for word, name, *told in self.shop.wishes:
                self.check_wish(self.shop.named(name), word, told)
        self.assertTrue(40 < refused < 220)

    def check_wish(self, scene, word, told):
        """A wish has to hold, by the numbers."""
        if word == "passed":
            self.assertLessEqual(number(told[2]), number(number_at(scene, told[0], told[1])))
        elif word == "clear":
            self.assertEqual((), jammed_moments(scene, told[0]))
        elif word == "out":
            self.assertEqual(all_cars(scene), number_at(scene, scene[1], told[0]))
        else:
            self.assertLessEqual(number(time_spent(scene)), number(told[0]))


class Trials(unittest.TestCase):
    def setUp(self):
        self.shop = Workshop()
        self.shop.put("main", FREE)
        self.shop.wish(("out", "main", SIX))
        self.kept = state_of(self.shop)

    def test_a_call_alone_changes_nothing(self):
        self.shop.trial()
        self.assertEqual(self.kept, state_of(self.shop))

    def test_a_block_that_ends_well(self):
        with self.shop.trial() as told:
            self.assertIs(self.shop, told)
            told.put("other", STREET)
            told.lift(0)
        self.assertEqual((4, ("main", "other"), (), [FREE, STREET]), state_of(self.shop))
        self.shop.undo()
        self.shop.undo()
        self.assertEqual(self.kept, state_of(self.shop))

    def test_a_block_that_ends_with_an_exception(self):
        for error in (ValueError("no"), KeyboardInterrupt(), Broken(3), SystemExit(2), GeneratorExit()):
            raised = None
            try:
                with self.shop.trial() as told:
                    told.put("other", STREET)
                    told.lift(0)
                    told.drop("main")
                    raise error
            except BaseException as passed:
                raised = passed
            self.assertIs(error, raised)
            self.assertEqual(self.kept, state_of(self.shop))

    def test_a_deed_that_is_refused(self):
        with self.assertRaises(Broken) as caught:
            with self.shop.trial():
                self.shop.put("main", LIGHT)
                self.shop.wish(("out", "main", ONE))
        self.assertEqual(1, caught.exception.index)
        self.assertEqual(self.kept, state_of(self.shop))
        # Caught within the block, it does not end it.
        with self.shop.trial():
            self.shop.put("main", LIGHT)
            self.assertIs(Broken, raised_by(self.shop.wish, ("out", "main", ONE)).__class__)
        self.assertIs(LIGHT, self.shop.named("main"))

    def test_undo_of_what_was_before_the_block(self):
        try:
            with self.shop.trial() as told:
                told.undo()
                told.undo()
                self.assertEqual((0, (), (), []), state_of(told))
                told.put("x", CROWD)
                raise KeyError(1)
        except KeyError:
            pass
        self.assertEqual(self.kept, state_of(self.shop))
        self.shop.undo()
        self.assertEqual((1, ("main",), (), [FREE]), state_of(self.shop))
        with self.shop.trial() as told:
            told.undo()
        self.assertEqual((0, (), (), []), state_of(self.shop))

    def test_one_trial_for_several_blocks(self):
        trial = self.shop.trial()
        for name in ("a", "b"):
            with trial:
                self.shop.put(name, CROWD)
        kept = state_of(self.shop)
        self.assertEqual(("a", "b", "main"), kept[1])
        for _ in range(2):
            with self.assertRaises(ZeroDivisionError):
                with trial:
                    self.shop.drop("a")
                    raise ZeroDivisionError
            self.assertEqual(kept, state_of(self.shop))

    def test_one_trial_for_blocks_within_one_another(self):
        trial = self.shop.trial()
        with trial as one:
            one.put("a", CROWD)
            kept = state_of(self.shop)
            with self.assertRaises(KeyError):
                with trial as other:
                    self.assertIs(one, other)
                    other.put("b", CROWD)
                    with trial:
                        other.put("c", CROWD)
                    raise KeyError(2)
            self.assertEqual(kept, state_of(self.shop))
            one.put("d", STREET)
        self.assertEqual(("a", "d", "main"), self.shop.names)
        with self.assertRaises(KeyError):
            with trial:
                self.shop.drop("a")
                with trial:
                    self.shop.drop("d")
                self.assertEqual(("main",), self.shop.names)
                raise KeyError(3)
        self.assertEqual((4, ("a", "d", "main"), (("out", "main", SIX),), [CROWD, STREET, FREE]), state_of(self.shop))

    def test_trials_within_trials(self):
        with self.assertRaises(IndexError):
            with self.shop.trial():
                self.shop.put("a", CROWD)
                with self.shop.trial():
                    self.shop.put("b", CROWD)
                self.assertEqual(("a", "b", "main"), self.shop.names)
                raise IndexError
        self.assertEqual(self.kept, state_of(self.shop))

    def test_tried(self):
        def action(shop):
            self.assertIs(self.shop, shop)
            shop.put("a", CROWD)
            return [7]
        self.assertEqual([7], self.shop.tried(action))
        self.assertEqual(("a", "main"), self.shop.names)
        kept = state_of(self.shop)

        def bad(shop):
            shop.drop("a")
            shop.put("main", STREET)
        with self.assertRaises(Broken) as caught:
            self.shop.tried(action=bad)
        self.assertEqual(0, caught.exception.index)
        self.assertEqual(kept, state_of(self.shop))
        # Trials within trials: the inner one ends by an error that is caught in the outer one.
        def outer(shop):
            shop.lift(0)
            self.assertIs(UnknownName, raised_by(shop.tried, lambda told: told.put("b", FREE) or told.drop("c")).__class__)
            return shop.names
        self.assertEqual(("a", "main"), self.shop.tried(outer))
        self.assertEqual(kept[0] + 1, len(self.shop))

    def test_many_changes(self):
        for at in range(400):
            self.shop.put("main", FREE)
        self.assertEqual(402, len(self.shop))
        with self.shop.trial():
            for _ in range(402):
                self.shop.undo()
        self.assertIs(NothingToUndo, raised_by(self.shop.undo).__class__)
        self.assertIs(True, bool(self.shop))


class Interface(unittest.TestCase):
    def test_what_the_class_defines_itself(self):
        for name in ("put", "drop", "wish", "lift", "named", "undo", "trial", "tried", "names", "wishes", "__len__",
                     "__contains__"):
            self.assertIn(name, vars(Workshop))
        self.assertEqual("roadwaves.workshops", Workshop.__module__)

    def test_numbers_of_any_size(self):
        shop, unit = Workshop(), Fraction(10) ** 390
        kind = tuple((pair(number(density) / unit), pair(number(flow) / unit)) for density, flow in ROAD)
        up = pair(2 * unit)
        scene = (kind, up, ((up, ZERO),), (TWO, ()), ())
        shop.put("a", scene)
        shop.wish(("spent", "a", time_spent(scene)))
        shop.wish(("out", "a", last_out(scene)))
        self.assertEqual(2, len(shop.wishes))


if __name__ == "__main__":
    unittest.main()
