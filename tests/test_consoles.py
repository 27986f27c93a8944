"""Consoles: each form of a line and its answer, and what is no line."""

import unittest
from fractions import Fraction

from roadwaves.cars import passing
from roadwaves.consoles import Console
from roadwaves.errors import (Broken, InUse, InvalidMoment, InvalidNumber, InvalidPhrase, InvalidPlace, NotAWorkshop,
                              NothingToUndo, UnknownName)
from roadwaves.jams import jammed_places
from roadwaves.scenes import all_cars, begun_anew
from roadwaves.ways import number_at
from roadwaves.workshops import Workshop
from tests.scene_support import (CROWD, FOUR, HALF, LIGHT, NARROW, ONE, ROAD, SIX, STREET, THREE, TWO, ZERO, random_point,
                                 some_scenes)
from tests.support import WRONG, check_refused, nested, number, pair, raised_by, random_source

LIGHT_TEXT = "0/1 0/1; 1/1 1/1; 3/1 0/1 | 2/1 | 2/1 0/1 | 0/1; 4/1 1/2 | 1/1 1/1 0/1 2/1 0/1"
CROWD_TEXT = "0/1 0/1; 1/1 1/1; 3/1 0/1 | 2/1 | 2/1 0/1 | 2/1 | none"
TWO_BARS = STREET[:2] + (((TWO, HALF), (TWO, ZERO)), (HALF, ((ONE, HALF), (TWO, ZERO))),
                         ((ONE, TWO, (1, 3), THREE, (1, 4)), STREET[4][0]))
TWO_BARS_TEXT = ("0/1 0/1; 1/1 1/1; 3/1 0/1 | 4/1 | 2/1 1/2; 2/1 0/1 | 1/2; 1/1 1/2; 2/1 0/1 | "
                 "1/1 2/1 1/3 3/1 1/4; 2/1 1/1 0/1 2/1 0/1")


def written(fraction):
    """A fraction as it is written, by Python itself."""
    return f"{fraction[0]}/{fraction[1]}"


def scene_text(scene):
    """A scene as it is written, by Python itself."""
    rows = lambda told: "; ".join(" ".join(map(written, row)) for row in told)
    kind, length, beginning, (waiting, pieces), bars = scene
    comings = "; ".join([written(waiting)] + [" ".join(map(written, piece)) for piece in pieces])
    return " | ".join([rows(kind), written(length), rows(beginning), comings, rows(bars) or "none"])


class ConsoleCase(unittest.TestCase):
    def setUp(self):
        self.shop = Workshop()
        self.console = Console(self.shop)

    def say(self, line):
        """An answer, which is a string."""
        found = self.console.say(line)
        self.assertIs(str, found.__class__)
        return found

    def check_no_line(self, line):
        """A line has to be refused, and to change nothing."""
        kept = len(self.shop), self.shop.names
        check_refused(self, InvalidPhrase, line, self.console.say, line)
        check_refused(self, InvalidPhrase, line, self.console.say, line=line)
        self.assertEqual(kept, (len(self.shop), self.shop.names))


class Answers(ConsoleCase):
    def test_putting_dropping_and_names(self):
        self.assertEqual("none", self.say("names"))
        self.assertEqual("done", self.say("put main: " + LIGHT_TEXT))
        self.assertEqual("done", self.console.say(line="put abcdefghijkl: " + CROWD_TEXT))
        self.assertEqual("done", self.say("put none: " + TWO_BARS_TEXT))
        self.assertEqual([CROWD, LIGHT, TWO_BARS], [self.shop.named(name) for name in self.shop.names])
        self.assertEqual("abcdefghijkl main none", self.say("names"))
        self.assertEqual("done", self.say("drop main"))
        self.assertEqual("abcdefghijkl none", self.say("names"))
        self.assertEqual("done", self.say("undo"))
        self.assertEqual("done", self.say("put main: " + CROWD_TEXT))
        self.assertEqual(CROWD, self.shop.named("main"))
        self.assertEqual(4, len(self.shop))
        for _ in range(4):
            self.assertEqual("done", self.say("undo"))
        self.assertEqual("none", self.say("names"))
        self.assertIs(NothingToUndo, raised_by(self.console.say, "undo").__class__)

    def test_texts_of_scenes(self):
        for scene, text in ((LIGHT, LIGHT_TEXT), (CROWD, CROWD_TEXT), (TWO_BARS, TWO_BARS_TEXT)):
            self.shop.put("a", scene)
            self.assertEqual(text, self.say("scene a"))
        for scene in some_scenes(121, 25):
            self.shop.put("a", scene)
            self.assertEqual(scene_text(scene), self.say("scene a"))
            self.assertEqual("done", self.say("put b: " + self.say("scene a")))
            self.assertEqual(scene, self.shop.named("b"))

    def test_numbers_passings_and_jams(self):
        source = random_source(122)
        for scene in [LIGHT, STREET, NARROW] + some_scenes(123, 12):
            self.shop.put("x", scene)
            for place, moment in [random_point(source, scene) for _ in range(4)]:
                told = number_at(scene, place, moment)
                self.assertEqual(written(told), self.say(f"number x: {written(place)} {written(moment)}"))
                jams = "; ".join(" ".join(map(written, stretch)) for stretch in jammed_places(scene, moment))
                self.assertEqual(jams or "none", self.say("jams x: " + written(moment)))
                car = pair(min(number(told) + 1, number(all_cars(scene))))
                self.assertEqual(written(passing(scene, car, place)), self.say(f"passing x: {written(car)} {written(place)}"))

    def test_by_hand(self):
        self.console.say("put main: " + LIGHT_TEXT)
        for line, expected in (("number main: 1/1 4/1", "1/1"), ("passing main: 1/2 1/1", "7/2"), ("jams main: 3/1", "3/5 1/1"),
                               ("jams main: 6/1", "none"), ("number main: 2/1 6/1", "2/1"), ("number main: 0/1 0/1", "0/1")):
            self.assertEqual(expected, self.say(line))
        self.shop.put("main", (ROAD, FOUR, ((ONE, THREE), (ONE, ZERO), (ONE, TWO), (ONE, ZERO)), (ZERO, ()), ()))
        self.assertEqual("0/1 1/1; 2/1 3/1", self.say("jams main: 0/1"))
        self.assertEqual("-5/1", self.say("number main: 4/1 0/1"))
        self.assertEqual("1/1", self.say("passing main: -4/1 3/1"))

    def test_numbers_of_many_figures(self):
        # A scene that this package returned may be told, whatever the size of its numbers.
        moment = pair(Fraction(7 ** 450, 2 * 7 ** 450 + 1))
        later = begun_anew(LIGHT, moment)
        self.shop.put("a", later)
        text = self.say("scene a")
        self.assertEqual(scene_text(later), text)
        self.assertEqual("done", self.say("put b: " + text))
        self.assertEqual(later, self.shop.named("b"))
        # Pieces whose lower numbers have nothing in common: the number at the end has many thousand figures.
        lowers = [2 ** 1290, 3 ** 810, 5 ** 560, 7 ** 460, 11 ** 380, 13 ** 350, 17 ** 320, 19 ** 310, 23 ** 290, 29 ** 270,
                  31 ** 265, 37 ** 250, 41 ** 245]
        widths = [Fraction(1, lower) for lower in lowers]
        pieces = tuple((pair(width), ONE) for width in widths)
        crowd = (ROAD, pair(sum(widths)), pieces, (ZERO, ()), ())
        self.shop.put("c", crowd)
        self.assertEqual(pair(-sum(widths)), number_at(crowd, crowd[1], ZERO))
        answer = self.say("scene c").split(" | ")[1]
        upper, lower = answer.split("/")
        self.assertGreater(len(lower), 4300)
        for told, expected in ((upper, sum(widths).numerator), (lower, sum(widths).denominator)):
            self.assertEqual(expected, sum(int(told[max(at - 400, 0):at]) * 10 ** (len(told) - at)
                                           for at in range(len(told), 0, -400)))
        self.assertEqual("done", self.say("put d: " + self.say("scene c")))
        self.assertEqual(crowd, self.shop.named("d"))
        self.assertEqual("-" + answer, self.say(f"number c: {answer} 0/1"))


    def test_figures_in_blocks(self):
        for many in (1, 59, 60, 61, 119, 120, 121, 180, 400):
            for told in (10 ** (many - 1), 10 ** many - 1, 7 * 10 ** (many - 1) + 3):
                self.shop.put("a", (ROAD, ONE, ((ONE, ZERO),), ((told, 1), ()), ()))
                self.assertEqual(f"{told}/1", self.say("scene a").split(" | ")[3])
                self.assertEqual("done", self.say("put b: " + self.say("scene a")))
                self.assertEqual((told, 1), all_cars(self.shop.named("b")))
                self.assertEqual(f"{told}/1", self.say(f"number b: 0/1 {told}/1"))


class NoLines(ConsoleCase):
    def setUp(self):
        super().setUp()
        self.console.say("put main: " + LIGHT_TEXT)

    def test_values_that_are_no_lines(self):
        for value in WRONG + [nested(14), ["names"], ("names",), b"names", b"undo", {"undo": 1}, "", " "]:
            self.check_no_line(value)

    def test_words_and_blanks(self):
        good = ["names", "undo", "drop main", "scene main", "number main: 1/1 4/1", "passing main: 1/2 1/1", "jams main: 3/1",
                "put main: " + LIGHT_TEXT]
        for line in good:
            for bad in (" " + line, line + " ", line.upper(), line[0].upper() + line[1:], line + ";", line + "\n", line[1:],
                        "\t" + line, line + " | none", line + "x/1", line + "."):
                self.check_no_line(bad)
            for at, sign in enumerate(line):
                if sign == " ":
                    self.check_no_line(line[:at] + " " + line[at:])
                    self.check_no_line(line[:at] + line[at + 1:])
                    self.check_no_line(line[:at] + "\t" + line[at + 1:])
            self.assertIsNone(raised_by(self.console.say, line))
            self.console.say("put main: " + LIGHT_TEXT)
        for line in ("name", "namess", "names main", "undo main", "drop", "scene", "put", "put main", "number main", "jams",
                     "number: 1/1 4/1", "jams main 3/1", "jams main:3/1", "jams main : 3/1", "lift 0", "wish main", "done", "none",
                     "number main: 1/1", "number main: 1/1 4/1 4/1", "passing main: 1/1", "jams main: 3/1 3/1", "jams main: ",
                     "put main: none", "put main: ", "scene main: ", "drop main: ", "number main: none", "scene: main"):
            self.check_no_line(line)

    def test_names(self):
        for name in ("", "Main", "mainmainmainm", "a1", "a-b", "\u00e4", "a b", ":"):
            for line in (f"drop {name}", f"scene {name}", f"number {name}: 1/1 4/1", f"passing {name}: 1/2 1/1",
                         f"jams {name}: 3/1", f"put {name}: {LIGHT_TEXT}"):
                self.check_no_line(line)

    def test_fractions(self):
        for bad in ("2/2", "2/4", "0/2", "1", "1/0", "1/-1", "-1/-1", "+1/1", "01/1", "1/01", "-0/1", "--1/1", "1//1", "/1", "1/",
                    "/", "1/1/1", "1.0/1", "1_0/1", "1e1/1", "0x1/1", "a/b", "\u0661/1", "1\u00b2/1", "None/1", "-/1", "- 1/1",
                    "00/1", "1/1,", "(1/1)", "-01/1"):
            for line in (f"number main: {bad} 4/1", f"number main: 1/1 {bad}", f"passing main: {bad} 1/1", f"jams main: {bad}",
                         f"passing main: 1/2 {bad}", "put main: " + LIGHT_TEXT.replace("2/1 0/1 | 0/1", f"{bad} 0/1 | 0/1"),
                         "put main: " + CROWD_TEXT.replace("| 2/1 | none", f"| {bad} | none"), f"put main: {bad}"):
                self.check_no_line(line)

    def test_texts_that_make_no_scene(self):
        parts = LIGHT_TEXT.split(" | ")
        for at, values in enumerate((
                ("0/1 0/1; 3/1 0/1", "none", "", "0/1 0/1; 1/1 1/1; 3/1", "0/1 0/1; 1/1 1/1; 3/1 0/1; ", "0/1 0/1;1/1 1/1; 3/1 0/1",
                 "0/1 1/1; 1/1 1/1; 3/1 0/1", "0/1 0/1; 1/1 -1/1; 3/1 0/1", "0/1 0/1 1/1 1/1 3/1 0/1"),
                ("0/1", "-2/1", "3/1", "2/1 0/1", "2/1; 2/1", "none", ""),
                ("2/1", "1/1 0/1", "2/1 4/1", "2/1 -1/1", "none", "", "2/1 0/1; 2/1 0/1", "1/1 0/1, 1/1 0/1"),
                ("-1/1", "none", "", "0/1; 4/1", "0/1 4/1 1/2", "4/1 1/2", "0/1; none", "0/1; ", "0/1; 0/1 1/2", "0/1; 4/1 -1/2"),
                ("", "none; none", "1/1 1/1 0/1 2/1", "1/1 1/1 0/1 2/1 0/1; none", "3/1 1/1 0/1 2/1 0/1", "None", "()",
                 "1/1 1/1 0/1 2/1 0/1; 1/1 1/1 0/1 2/1 0/1", "1/1 1/1 1/1 1/1 0/1"))):
            for value in values:
                self.check_no_line("put main: " + " | ".join(parts[:at] + [value] + parts[at + 1:]))
        for text in (" | ".join(parts[:4]), " | ".join(parts + ["none"]), LIGHT_TEXT.replace(" | ", "|"), parts[0],
                     LIGHT_TEXT.replace("; ", ";"), LIGHT_TEXT.replace("; ", ", "), " | ".join(parts[::-1])):
            self.check_no_line("put main: " + text)
        # The phrase is looked at ahead of the workshop.
        self.shop.wish(("out", "main", SIX))
        self.check_no_line("put main: " + LIGHT_TEXT.replace("4/1 1/2", "4/1 2/4"))


class ErrorsPassedOn(ConsoleCase):
    def test_of_what_is_called(self):
        self.console.say("put main: " + LIGHT_TEXT)
        self.shop.wish(("out", "main", SIX))
        kept = len(self.shop), self.shop.names, self.shop.wishes
        for line, error, given in (("drop other", UnknownName, "other"), ("scene none", UnknownName, "none"),
                                   ("number other: -1/1 -1/1", UnknownName, "other"), ("jams x: -1/1", UnknownName, "x"),
                                   ("passing x: 9/1 9/1", UnknownName, "x"),
                                   ("number main: -1/1 -1/1", InvalidPlace, (-1, 1)), ("number main: 5/2 1/1", InvalidPlace, (5, 2)),
                                   ("number main: 2/1 -1/2", InvalidMoment, (-1, 2)), ("jams main: -3/1", InvalidMoment, (-3, 1)),
                                   ("passing main: 3/1 9/1", InvalidNumber, (3, 1)), ("passing main: -1/9 1/1", InvalidNumber, (-1, 9)),
                                   ("passing main: 1/1 9/1", InvalidPlace, (9, 1))):
            found = raised_by(self.console.say, line)
            self.assertIs(error, found.__class__)
            self.assertEqual(given, found.given)
        found = raised_by(self.console.say, "drop main")
        self.assertEqual((InUse, 0), (found.__class__, found.index))
        found = raised_by(self.console.say, "put main: " + LIGHT_TEXT.replace("1/1 1/1 0/1 2/1 0/1", "1/1 1/1 0/1 3/1 0/1"))
        self.assertEqual((Broken, 0), (found.__class__, found.index))
        self.assertEqual(kept, (len(self.shop), self.shop.names, self.shop.wishes))
        self.assertIs(NothingToUndo, raised_by(Console(Workshop()).say, "undo").__class__)


class Shops(unittest.TestCase):
    def test_no_workshops(self):
        for value in WRONG + [Workshop, Console, Console(Workshop())]:
            check_refused(self, NotAWorkshop, value, Console, value)
            check_refused(self, NotAWorkshop, value, Console, shop=value)

    def test_two_consoles_of_one_shop(self):
        shop = Workshop()
        one, other = Console(shop), Console(shop=shop)
        self.assertFalse(one == other)
        self.assertTrue(one == one and one != other and bool(one))
        one.say("put main: " + LIGHT_TEXT)
        self.assertEqual("main", other.say("names"))
        with shop.trial():
            other.say("drop main")
        self.assertEqual("none", one.say("names"))
        self.assertEqual(2, len(shop))

    def test_what_the_class_defines_itself(self):
        self.assertIn("say", vars(Console))
        self.assertEqual("roadwaves.consoles", Console.__module__)


if __name__ == "__main__":
    unittest.main()
