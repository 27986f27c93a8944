"""The error classes of the interface."""

import unittest

from roadwaves import errors
from tests.support import WRONG, nested, raised_by

GIVEN = """
    InvalidFraction InvalidAmount InvalidContent InvalidNumber InvalidIndex InvalidKind InvalidDensity InvalidFlow
    InvalidPlace InvalidMoment InvalidSpeed InvalidWay InvalidScene InvalidCounts InvalidRims InvalidBook InvalidName
    InvalidWish InvalidPhrase NotAWorkshop UnknownName TooMany
""".split()
INDEX = "InvalidBeginning InvalidComings InvalidBars InvalidRow InvalidMarks InUse Broken".split()
BARE = "NoStep NoneFits NothingToUndo".split()
NAMED = [(name, "given") for name in GIVEN] + [(name, "index") for name in INDEX]
ALL = GIVEN + INDEX + BARE
KEPT = WRONG + [(1, 2), ((0, 1), (1, 2)), ["a", ["b"]], {"a": [1]}, 7, nested(14)]


def raise_it(error):
    raise error


class ErrorClasses(unittest.TestCase):
    def test_base_stands_under_value_error_alone(self):
        self.assertEqual((ValueError,), errors.RoadError.__bases__)

    def test_all_others_stand_under_the_base_alone(self):
        for name in ALL:
            with self.subTest(name=name):
                mro = getattr(errors, name).__mro__[1:]
                self.assertEqual((errors.RoadError, ValueError, Exception, BaseException, object), mro)

    def test_none_stands_under_another_one(self):
        for name in ALL:
            for other in ALL:
                with self.subTest(name=name, other=other):
                    below = issubclass(getattr(errors, name), getattr(errors, other))
                    self.assertEqual(name == other, below)

    def test_none_stands_under_other_errors_of_python(self):
        for name in ALL + ["RoadError"]:
            for other in (LookupError, TypeError, ArithmeticError, AssertionError, RuntimeError, OSError, UnicodeError):
                with self.subTest(name=name, other=other):
                    self.assertFalse(issubclass(getattr(errors, name), other))

    def test_names_and_modules(self):
        for name in ALL + ["RoadError"]:
            with self.subTest(name=name):
                found = getattr(errors, name)
                self.assertEqual(("roadwaves.errors", name), (found.__module__, found.__name__))


class Attributes(unittest.TestCase):
    def test_kept_whatever_they_are_by_position(self):
        for name, attribute in NAMED:
            for which, value in enumerate(KEPT):
                with self.subTest(name=name, which=which):
                    self.assertIs(value, getattr(getattr(errors, name)(value), attribute))

    def test_kept_whatever_they_are_by_name(self):
        for name, attribute in NAMED:
            for which, value in enumerate(KEPT):
                with self.subTest(name=name, which=which):
                    self.assertIs(value, getattr(getattr(errors, name)(**{attribute: value}), attribute))

    def test_kept_as_long_as_the_error_is_raised(self):
        for name, attribute in NAMED:
            value = [name]
            with self.subTest(name=name):
                found = raised_by(raise_it, getattr(errors, name)(value))
                self.assertIs(value, getattr(found, attribute))
                self.assertEqual([name], value)

    def test_each_object_keeps_its_own(self):
        for name, attribute in NAMED:
            with self.subTest(name=name):
                first, second = getattr(errors, name)(1), getattr(errors, name)(2)
                self.assertEqual((1, 2), (getattr(first, attribute), getattr(second, attribute)))


class Catching(unittest.TestCase):
    def made(self):
        found = [errors.RoadError()] + [getattr(errors, name)() for name in BARE]
        for name, attribute in NAMED:
            found.append(getattr(errors, name)(None))
            found.append(getattr(errors, name)(**{attribute: 3}))
        return found

    def test_caught_as_itself(self):
        for error in self.made():
            with self.subTest(error=error.__class__.__name__):
                with self.assertRaises(error.__class__) as caught:
                    raise error
                self.assertIs(error, caught.exception)

    def test_caught_as_the_base_and_as_value_error(self):
        for error in self.made():
            for base in (errors.RoadError, ValueError):
                with self.subTest(error=error.__class__.__name__, base=base):
                    with self.assertRaises(base):
                        raise error

    def test_not_caught_as_another_one(self):
        for error in self.made():
            others = tuple(getattr(errors, name) for name in ALL if name != error.__class__.__name__)
            with self.subTest(error=error.__class__.__name__):
                try:
                    raise_it(error)
                except others:
                    self.fail("caught as another one")
                except errors.RoadError as caught:
                    self.assertIs(error, caught)

    def test_true(self):
        for error in self.made():
            self.assertTrue(error)


if __name__ == "__main__":
    unittest.main()
