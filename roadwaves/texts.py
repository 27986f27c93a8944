"""Texts: whole numbers, fractions and scenes as they are written on a console, and what is read from texts."""

from roadwaves.rationals import is_fraction
from roadwaves.scenes import is_scene

DIGITS = "0123456789"
# Whole numbers of very many figures are written and read in blocks, as Python does not convert them as a whole.
BLOCK = 60
NONE = "none"


def text_of_whole(number):
    """A whole number as Python writes it."""
    rest = abs(number)
    blocks = []
    while rest >= 10 ** 60:
        rest, block = divmod(rest, 10 ** 60)
        blocks.append(str(block).zfill(BLOCK))
    blocks.append(str(rest))
    sign = "-" if number < 0 else ""
    return sign + "".join(blocks[::-1])


def whole_in(text):
    """The whole number that Python writes so; None if there is none."""
    figures = text[1:] if text.startswith("-") else text
    if not figures or not all([figure in DIGITS for figure in figures]):
        return None
    if figures.startswith("0") and text != "0":
        return None
    first = len(figures) % BLOCK
    number = int(figures[:first]) if first > 0 else 0
    for at in range(first, len(figures), BLOCK):
        number = number * 10 ** 60 + int(figures[at:at + BLOCK])
    return -number if text.startswith("-") else number


def text_of_fraction(fraction):
    """A fraction with a stroke between its numbers."""
    return text_of_whole(fraction[0]) + "/" + text_of_whole(fraction[1])


def fraction_in(text):
    """The fraction that is written so; None if there is none."""
    upper, _, lower = text.partition("/")
    value = (whole_in(upper), whole_in(lower))
    return value if is_fraction(value) else None


def text_of_row(fractions):
    """Fractions with a blank between."""
    return " ".join([text_of_fraction(fraction) for fraction in fractions])


def row_in(text, many):
    """The so many fractions that are written with a blank between; None if there are others."""
    found = tuple([fraction_in(part) for part in text.split(" ")])
    return None if len(found) != many or None in found else found


def text_of_rows(rows):
    """Rows of fractions, parted."""
    return "; ".join([text_of_row(row) for row in rows])


def rows_in(text, many):
    """The rows of so many fractions each that are written so; None if there are others."""
    found = tuple([row_in(part, many) for part in text.split("; ")])
    return None if None in found else found


def text_of_scene(scene):
    """A scene as it is written."""
    kind, length, beginning, comings, bars = scene
    waiting = "; ".join([text_of_fraction(comings[0])] + [text_of_row(piece) for piece in comings[1]])
    parts = [text_of_rows(kind), text_of_fraction(length), text_of_rows(beginning), waiting, text_of_rows(bars) or NONE]
    return " | ".join(parts)


def scene_in(text):
    """The scene that is written so; None if there is none."""
    parts = text.split(" | ")
    if len(parts) != 5:
        return None
    waiting, mark, pieces = parts[3].partition("; ")
    comings = (fraction_in(waiting), rows_in(pieces, 2) if mark else ())
    bars = () if parts[4] == NONE else rows_in(parts[4], 5)
    scene = (rows_in(parts[0], 2), fraction_in(parts[1]), rows_in(parts[2], 2), comings, bars)
    return scene if is_scene(scene) else None
