"""Waits: how late all could come without anybody leaving later, and how much time they spend."""

from roadwaves.counts import area_between, counts_through
from roadwaves.drawing import drawing_of
from roadwaves.lines import greater_line, height_at, slope_between
from roadwaves.rationals import ZERO, greater, greatest, is_below, minus, plus, times
from roadwaves.scene_parts import arrivals_line, tracks_of
from roadwaves.scenes import check_scene, last_number
from roadwaves.sections import counts_in


def latest_comings(scene):
    """The least counts of those who have come with which all leave as before."""
    check_scene(scene)
    return latest_of(scene)


def time_spent(scene):
    """The sum of the times of all cars."""
    check_scene(scene)
    return area_of(arrivals_in(scene), counts_in(drawing_of(scene), scene[1]))


def waited_ahead(scene):
    """How much time all cars together wait ahead of the road."""
    check_scene(scene)
    return area_of(arrivals_in(scene), counts_in(drawing_of(scene), ZERO))


def held_back(scene):
    """How much later all cars together could come without anybody leaving later."""
    check_scene(scene)
    return area_of(arrivals_in(scene), latest_of(scene))


def latest_of(scene):
    """The latest comings of a scene.

    Seen from behind, from the end of the road and of the time on, a way that leads out is a way that leads in, with
    the same tolls. So they are told by the numbers of a scene turned round, in which those come who leave.
    """
    leaving = counts_in(drawing_of(scene), scene[1])
    last = greatest([leaving[-1][0]] + [track.end for track in tracks_of(scene[4])])
    turned = counts_in(drawing_of(turned_scene(scene, leaving, last)), scene[1])
    moments = [moment for moment, _ in turned if is_below(moment, last)] + [last]
    total = last_number(scene)
    latest = [(minus(last, moment), minus(total, height_at(turned, moment))) for moment in moments[::-1]]
    nobody = [(ZERO, ZERO)]
    return counts_through(greater_line(latest, nobody, [moment for moment, _ in latest]))


def turned_scene(scene, leaving, last):
    """The scene seen from its end and from a last moment backwards: those come who leave, to an empty road."""
    kind, length, _, _, bars = scene
    turned = tuple([turned_bar(length, last, bar) for bar in bars])
    return (kind, length, ((length, ZERO),), (ZERO, turned_pieces(leaving, last)), turned)


def turned_pieces(leaving, last):
    """The pieces of counts as they are gone through from a last moment back to 0."""
    pieces = []
    if is_below(leaving[-1][0], last):
        pieces.append((minus(last, leaving[-1][0]), ZERO))
    for corner, following in list(zip(leaving, leaving[1:]))[::-1]:
        pieces.append((minus(following[0], corner[0]), slope_between(corner, following)))
    return tuple(pieces)


def turned_bar(length, last, bar):
    """A bar as it is gone along from its end to its start."""
    place, moment, speed, duration, rate = bar
    end = plus(place, times(speed, duration))
    return (minus(length, end), minus(last, plus(moment, duration)), speed, duration, rate)


def arrivals_in(scene):
    """The counts of those who wait or have come ahead of the road."""
    return counts_through(arrivals_line(scene[3]))


def area_of(counts, other):
    """The whole area between two counts that tell the same number in the end."""
    return area_between(counts, other, greater(counts[-1][0], other[-1][0]))
