"""The parts of a scene: checks of beginnings, comings and bars, and the lines of place and time that they make."""

from roadwaves.errors import InvalidBars, InvalidBeginning, InvalidComings
from roadwaves.lines import slopes_of
from roadwaves.rationals import ZERO, greater, is_amount, is_at_most, is_below, is_content, is_fraction_within, lesser
from roadwaves.rationals import minus, plus, times, total_of

MOST_PIECES = 40
MOST_BARS = 6


class Track:
    """The line of place and time on which a bar is: its place at any moment is offset plus speed times moment."""

    def __init__(self, bar):
        place, moment, speed, duration, rate = bar
        self.offset = minus(place, times(speed, moment))
        self.speed = speed
        self.begin = moment
        self.end = plus(moment, duration)
        self.rate = rate

    def place_at(self, moment):
        """Where the bar is at a moment."""
        return plus(self.offset, times(self.speed, moment))

    def lasts_at(self, moment):
        """Whether the bar is there at a moment, its end being counted."""
        return is_at_most(self.begin, moment) and is_at_most(moment, self.end)

    def lasts_behind(self, moment):
        """Whether the bar begins at or before a moment and ends behind it."""
        return is_at_most(self.begin, moment) and is_below(moment, self.end)

    def has(self, place, moment):
        """Whether a place and moment is on the bar."""
        return self.lasts_at(moment) and self.place_at(moment) == place


def tracks_of(bars):
    """The tracks of several bars."""
    return [Track(bar) for bar in bars]


def check_beginning(kind, length, value):
    """Raise the error that is told for what is no beginning of a road."""
    if not isinstance(value, tuple) or not value:
        raise InvalidBeginning(None)
    for at, piece in enumerate(value):
        if at == MOST_PIECES or not is_standing(kind, piece):
            raise InvalidBeginning(at)
    if total_of([piece[0] for piece in value]) != length:
        raise InvalidBeginning(None)


def is_standing(kind, value):
    """Whether a value is a piece of a beginning."""
    if not isinstance(value, tuple) or len(value) != 2:
        return False
    return is_amount(value[0]) and is_fraction_within(value[1], ZERO, kind[-1][0])


def check_comings(value):
    """Raise the error that is told for what is no comings."""
    if not isinstance(value, tuple) or len(value) != 2:
        raise InvalidComings(None)
    waiting, pieces = value
    if not is_content(waiting) or not isinstance(pieces, tuple):
        raise InvalidComings(None)
    for at, piece in enumerate(pieces):
        if at == MOST_PIECES or not is_coming(piece):
            raise InvalidComings(at)


def is_coming(value):
    """Whether a value is a piece of comings."""
    return isinstance(value, tuple) and len(value) == 2 and is_amount(value[0]) and is_content(value[1])


def check_bars(kind, length, value):
    """Raise the error that is told for what is no bars of a road."""
    if not isinstance(value, tuple):
        raise InvalidBars(None)
    tracks = []
    for at, bar in enumerate(value):
        if at == MOST_BARS or not is_bar(kind, length, bar):
            raise InvalidBars(at)
        track = Track(bar)
        if any([is_clash(track, before) for before in tracks]):
            raise InvalidBars(at)
        tracks.append(track)


def is_bar(kind, length, value):
    """Whether a value is by itself a bar on a road."""
    if not isinstance(value, tuple) or len(value) != 5:
        return False
    place, moment, speed, duration, rate = value
    if not is_fraction_within(place, ZERO, length) or not is_content(moment):
        return False
    if not is_content(speed) or not is_below(speed, slopes_of(kind)[0]):
        return False
    if not is_amount(duration) or not is_content(rate):
        return False
    return is_at_most(plus(place, times(speed, duration)), length)


def is_clash(one, other):
    """Whether two tracks have a place and moment in common that is not the end of one and the start of the other."""
    first = greater(one.begin, other.begin)
    last = lesser(one.end, other.end)
    # Both together at one moment alone: one begins where the other one ends, if they meet at all.
    if is_at_most(last, first):
        return False
    gap = minus(one.place_at(first), other.place_at(first))
    later_gap = minus(one.place_at(last), other.place_at(last))
    return not is_below(ZERO, times(gap, later_gap))


def start_line(beginning):
    """The number at each place at the moment 0, as a line with a corner at each end of a piece."""
    corners = [(ZERO, ZERO)]
    for length, density in beginning:
        place, number = corners[-1]
        corners.append((plus(place, length), minus(number, times(length, density))))
    return corners


def arrivals_line(comings):
    """How many wait or have come at each moment, as a line with a corner at each end of a piece."""
    waiting, pieces = comings
    corners = [(ZERO, waiting)]
    for duration, rate in pieces:
        moment, number = corners[-1]
        corners.append((plus(moment, duration), plus(number, times(duration, rate))))
    return corners


def bars_behind(bars, moment):
    """The bars looked at from a moment on, in their order."""
    found = []
    for bar in bars:
        track = Track(bar)
        if is_at_most(track.end, moment):
            continue
        first = greater(track.begin, moment)
        found.append((track.place_at(first), minus(first, moment), track.speed, minus(track.end, first), track.rate))
    return tuple(found)


def comings_behind(comings, moment):
    """The pieces of the comings behind a moment, one that it cuts from the moment on."""
    found = []
    begin = ZERO
    for duration, rate in comings[1]:
        end = plus(begin, duration)
        if is_below(moment, end):
            found.append((minus(end, greater(begin, moment)), rate))
        begin = end
    return tuple(found)
