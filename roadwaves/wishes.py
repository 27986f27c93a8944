"""Wishes of a workshop: what is to hold for the scene under a name."""

from roadwaves.bars import is_out
from roadwaves.jams import jammed_moments
from roadwaves.names import is_name
from roadwaves.rationals import ZERO, is_at_most, is_content, is_fraction, is_fraction_within
from roadwaves.waits import time_spent
from roadwaves.ways import least_number


def is_wish(value):
    """Whether a value, whatever it is, is a wish; there need not be a scene under its name."""
    if not isinstance(value, tuple) or len(value) not in (3, 5):
        return False
    if not isinstance(value[0], str) or not is_name(value[1]):
        return False
    if value[0] == "passed":
        return len(value) == 5 and is_content(value[2]) and is_content(value[3]) and is_fraction(value[4])
    if len(value) != 3:
        return False
    if value[0] == "spent":
        return is_fraction(value[2])
    return value[0] in ("clear", "out") and is_content(value[2])


def is_held(scene, wish):
    """Whether a wish holds with a scene under its name."""
    if wish[0] == "out":
        return is_out(scene, wish[2])
    if wish[0] == "spent":
        return is_at_most(time_spent(scene), wish[2])
    place = wish[2]
    if not is_fraction_within(place, ZERO, scene[1]):
        return False
    if wish[0] == "clear":
        return jammed_moments(scene, place) == ()
    return is_at_most(wish[4], least_number(scene, place, wish[3]))
