"""Bars: those that change nothing, lots of bars that never let cars later, and how long a bar may last."""

from roadwaves.counts import check_moment
from roadwaves.errors import InvalidIndex, InvalidNumber
from roadwaves.kinds import check_kind
from roadwaves.least_ways import step_toll
from roadwaves.rationals import ZERO, ascending_of, floor_of, greatest, is_at_most, is_below, is_whole, lesser
from roadwaves.rationals import minus, plus, reduced, times
from roadwaves.scene_parts import MOST_BARS, bars_behind, check_bars, tracks_of
from roadwaves.scenes import check_length, check_scene, last_number
from roadwaves.ways import least_number

ONE = (1, 1)
HALF = (1, 2)
MOST_PARTS = 1000000


def bars_from(kind, length, bars, moment):
    """The bars looked at from a moment on, in their order."""
    check_lot(kind, length, bars)
    check_moment(moment)
    return bars_behind(bars, moment)


def needless_bars(kind, length, bars):
    """The indexes of the bars that do not bite, ascending."""
    check_lot(kind, length, bars)
    return tuple([at for at, track in enumerate(tracks_of(bars)) if not is_biting(kind, track)])


def never_later(kind, length, bars, other):
    """Whether the first lot of bars lets cars never later than the other one."""
    check_lot(kind, length, bars)
    check_bars(kind, length, other)
    return bare_piece(kind, bars, other) is None


def parting_view(kind, length, bars, other):
    """A view (MOMENT, BEGINNING, COMINGS, PLACE, LATER) in which the first lot lets cars later; None."""
    check_lot(kind, length, bars)
    check_bars(kind, length, other)
    bare = bare_piece(kind, bars, other)
    if bare is None:
        return None
    track, first, last = bare
    moment = clear_moment(track, first, last, tracks_of(other))
    duration = minus(last, moment)
    while True:
        view = view_along(kind, length, track, moment, duration)
        if is_below(number_in_view(kind, length, bars, view), number_in_view(kind, length, other, view)):
            return view
        # Until anything but this bar is felt, the first lot's number stays behind.
        duration = times(duration, HALF)


def longest_bar(scene, index, last, many):
    """The greatest number of parts of a unit of time that a bar may last for all to be out by a moment; None."""
    check_scene(scene)
    if not is_whole(index) or not 0 <= index < len(scene[4]):
        raise InvalidIndex(index)
    check_moment(last)
    if not is_whole(many) or not 1 <= many <= MOST_PARTS:
        raise InvalidNumber(many)
    if not is_out(scene_lasting(scene, index, ZERO), last):
        return None
    low, high = 0, floor_of(times(scene[4][index][3], (many, 1)))
    while low < high:
        middle = (low + high + 1) // 2
        if is_out(scene_lasting(scene, index, reduced(middle, many)), last):
            low = middle
        else:
            high = middle - 1
    return low


def check_lot(kind, length, bars):
    """Raise the errors that are told for a kind, a length and a lot of bars."""
    check_kind(kind)
    check_length(length)
    check_bars(kind, length, bars)


def is_biting(kind, track):
    """Whether a bar holds up anybody."""
    return is_below(track.rate, step_toll(kind, track.speed, ONE))


def bare_piece(kind, bars, other):
    """A bar of the first lot that bites, and moments of it from which to which no bar of the other lot covers it.

    None if there is none.
    """
    covers = tracks_of(other)
    for track in tracks_of(bars):
        if is_biting(kind, track):
            gap = first_gap(track, [cover for cover in covers if is_covering(cover, track)])
            if gap is not None:
                return (track, gap[0], gap[1])
    return None


def is_covering(cover, track):
    """Whether one bar has the line of another one, and no greater rate."""
    same = cover.speed == track.speed and cover.offset == track.offset
    return same and is_at_most(cover.rate, track.rate)


def first_gap(track, covers):
    """The first moments from which to which no cover is on a bar; None if it is covered all along."""
    reached = track.begin
    while is_below(reached, track.end):
        ends = [cover.end for cover in covers if cover.lasts_behind(reached)]
        if not ends:
            begins = [cover.begin for cover in covers if is_below(reached, cover.begin)]
            return (reached, lesser(track.end, ascending_of(begins)[0]) if begins else track.end)
        reached = greatest(ends)
    return None


def clear_moment(track, first, last, others):
    """A moment between two at which no bar crosses another one's track."""
    # Each of the others crosses it once at most.
    parts = MOST_BARS + 2
    moments = [plus(first, times(minus(last, first), reduced(at, parts))) for at in range(1, parts)]
    clear = [moment for moment in moments if not any([is_crossing(other, track, moment) for other in others])]
    return clear[0]


def is_crossing(other, track, moment):
    """Whether another bar is on a bar's track at a moment, without going along with it."""
    return other.speed != track.speed and other.has(track.place_at(moment), moment)


def view_along(kind, length, track, moment, duration):
    """The view along a bar, from a moment on for a duration, with as many cars as ever get past its speed."""
    rates = [minus(flow, times(density, track.speed)) for density, flow in kind]
    density = kind[rates.index(greatest(rates))][0]
    top = greatest([corner[1] for corner in kind])
    place = track.place_at(plus(moment, duration))
    return (moment, ((length, density),), (ZERO, ((duration, top),)), place, duration)


def number_in_view(kind, length, bars, view):
    """The number at the place and moment of a view with a lot of bars."""
    moment, beginning, comings, place, later = view
    return least_number((kind, length, beginning, comings, bars_behind(bars, moment)), place, later)


def scene_lasting(scene, index, duration):
    """A scene with another duration of one of its bars; without that bar for the duration 0."""
    kind, length, beginning, comings, bars = scene
    place, moment, speed, _, rate = bars[index]
    changed = () if duration == ZERO else ((place, moment, speed, duration, rate),)
    return (kind, length, beginning, comings, bars[:index] + changed + bars[index + 1:])


def is_out(scene, moment):
    """Whether nobody of a scene is on the road or ahead of it from a moment on."""
    return least_number(scene, scene[1], moment) == last_number(scene)
