"""The drawing of a scene: all places and moments, cut by straight paths into stretches of one density each.

It is made by following all fronts, in order of time: wherever some meet, a bar begins or ends, or other comings
begin, new ones go out, as the densities on both sides ask for.
"""

from roadwaves.lines import height_at, last_corner_up_to, leading, slope_between
from roadwaves.rationals import ZERO, ascending_of, greatest, is_at_most, is_below, lesser, minus, over, plus, times
from roadwaves.scene_parts import arrivals_line, start_line, tracks_of
from roadwaves.waves import density_coming, flow_past, waves_at_bar, waves_between


class Path:
    """A straight line of place and time from a moment on: a front, a bar, or an end of the road.

    The number on it grows with one rate; behind and ahead of it there is one density each, None off the road.
    """

    def __init__(self, place, moment, wave, number, rate):
        self.speed, self.behind, self.ahead = wave
        self.offset = minus(place, times(self.speed, moment))
        self.birth = moment
        self.end = None
        self.number = number
        self.rate = rate
        # When it meets the path ahead of it; None if never.
        self.meeting = None

    def place_at(self, moment):
        """Where the path is at a moment."""
        return plus(self.offset, times(self.speed, moment))

    def number_when(self, moment):
        """The number on the path at a moment."""
        return plus(self.number, times(self.rate, minus(moment, self.birth)))

    def lasts_at(self, moment):
        """Whether the path is there at a moment, its end being counted."""
        return is_at_most(self.birth, moment) and (self.end is None or is_at_most(moment, self.end))


class Drawing:
    """The paths of a scene up to a last moment, or all if none is told: those there from each turning moment on."""

    def __init__(self, scene, last):
        self.kind, self.length, beginning, comings, bars = scene
        self.starts = start_line(beginning)
        self.arrivals = arrivals_line(comings)
        self.tracks = tracks_of(bars)
        self.top = greatest([corner[1] for corner in self.kind])
        self.now = ZERO
        # When nobody waits ahead of the road any more, if all stays as it is; None if never.
        self.freed = None
        self.planned = planned_turns(self.starts, self.arrivals, self.tracks)
        self.paths = first_paths(beginning, self.starts)
        self.ever = []
        self.moments = []
        self.rows = []
        self.follow(last)

    def follow(self, last):
        """Follow all paths, turn by turn."""
        moment = ZERO
        while moment is not None and (last is None or is_at_most(moment, last)):
            places = self.places_turning(moment)
            self.now = moment
            for place in places:
                self.settle(place)
            self.moments.append(moment)
            self.rows.append(self.paths)
            moment = self.following_turn()

    def following_turn(self):
        """The first moment behind now at which anything turns; None if nothing does."""
        found = self.freed
        for path in self.paths:
            if path.meeting is not None and (found is None or is_below(path.meeting, found)):
                found = path.meeting
        for moment, _ in self.planned:
            if is_below(self.now, moment) and (found is None or is_below(moment, found)):
                found = moment
        return found

    def places_turning(self, moment):
        """The places at which anything turns at a moment."""
        found = [place for turn, place in self.planned if turn == moment]
        found.extend([path.place_at(moment) for path in self.paths if path.meeting == moment])
        if self.freed == moment:
            found.append(ZERO)
        return ascending_of(found)

    def settle(self, place):
        """Let new paths go out from a place, instead of those that are there now."""
        first = paths_behind(self.paths, place, self.now)
        beyond = paths_up_to(self.paths, place, self.now)
        number = self.number_before(first, place)
        behind = self.paths[first - 1].ahead if first > 0 else self.density_coming_in()
        ahead = self.paths[beyond - 1].ahead if beyond < len(self.paths) else ZERO
        waves = self.waves_on_road(place, behind, ahead)
        made = [Path(place, self.now, wave, number, self.rate_of(wave)) for wave in waves]
        for path in self.paths[first:beyond]:
            path.end = self.now
        row = self.paths[:first] + made + self.paths[beyond:]
        for at in range(max(first - 1, 0), min(first + len(made), len(row) - 1)):
            path = row[at]
            path.meeting = meeting_of(path, row[at + 1])
        self.paths = row
        self.ever.extend(made)
        if place == ZERO:
            self.freed = self.moment_freed(made[0])

    def number_before(self, first, place):
        """The number now at a place, told from the last path behind it, which has the index before this one."""
        if first == 0:
            return self.paths[0].number_when(self.now)
        path = self.paths[first - 1]
        return minus(path.number_when(self.now), times(path.ahead, minus(place, path.place_at(self.now))))

    def waves_on_road(self, place, behind, ahead):
        """The waves that go out now from a place between two densities, and where the road ends its end."""
        waves = self.waves_out(place, behind, ahead)
        if place == ZERO:
            waves = [wave for wave in waves if wave[0][0] > 0]
            return [(ZERO, None, waves[0][1] if waves else ahead)] + waves
        if place == self.length:
            waves = [wave for wave in waves if wave[0][0] < 0]
            return waves + [(ZERO, waves[-1][2] if waves else behind, None)]
        return waves

    def waves_out(self, place, behind, ahead):
        """The waves that would go out now from a place between two densities if the road ended nowhere."""
        for track in self.tracks:
            if track.lasts_behind(self.now) and track.place_at(self.now) == place:
                return waves_at_bar(self.kind, behind, ahead, track.speed, track.rate)
        return waves_between(self.kind, behind, ahead)

    def rate_of(self, wave):
        """How fast the number grows along a wave."""
        speed, behind, ahead = wave
        return flow_past(self.kind, behind if ahead is None else ahead, speed)

    def waiting(self):
        """How many wait ahead of the road now."""
        return minus(height_at(self.arrivals, self.now), self.paths[0].number_when(self.now))

    def rate_coming(self):
        """How many come ahead of the road for each unit of time just behind now."""
        at = last_corner_up_to(self.arrivals, self.now)
        return slope_between(self.arrivals[at], self.arrivals[at + 1]) if at + 1 < len(self.arrivals) else ZERO

    def density_coming_in(self):
        """The density with which cars would come in now if nothing on the road held them back."""
        flow = self.top if self.waiting() != ZERO else lesser(self.top, self.rate_coming())
        return density_coming(self.kind, flow)

    def moment_freed(self, entrance):
        """When nobody waits ahead of the road any more, if all stays as it is; None if never or now."""
        waiting = self.waiting()
        drop = minus(entrance.rate, self.rate_coming())
        return plus(self.now, over(waiting, drop)) if waiting[0] > 0 and drop[0] > 0 else None

    def row_at(self, moment):
        """The paths that are there just behind a moment, in order of places."""
        return self.rows[leading(self.moments, lambda turn: is_at_most(turn, moment)) - 1]

    def sides_at(self, place, moment):
        """The densities behind and ahead of a place just behind a moment that is no turning one."""
        row = self.row_at(moment)
        first, beyond = paths_behind(row, place, moment), paths_up_to(row, place, moment)
        behind = row[first - 1].ahead if first > 0 else None
        return behind, row[beyond - 1].ahead

    def number_told(self, place, moment):
        """The number at a place and moment."""
        row = self.row_at(moment)
        path = row[max(paths_behind(row, place, moment) - 1, 0)]
        return minus(path.number_when(moment), times(path.ahead, minus(place, path.place_at(moment))))


def drawing_of(scene):
    """The whole drawing of a scene."""
    return Drawing(scene, None)


def planned_turns(starts, arrivals, tracks):
    """Pairs of a moment and a place at which anything turns that is known ahead."""
    found = [(ZERO, place) for place, _ in starts]
    found.extend([(moment, ZERO) for moment, _ in arrivals])
    found.extend([(track.begin, track.place_at(track.begin)) for track in tracks])
    found.extend([(track.end, track.place_at(track.end)) for track in tracks])
    return found


def first_paths(beginning, starts):
    """Paths that stand where the pieces of a beginning end, to be replaced at the moment 0."""
    densities = [None] + [density for _, density in beginning] + [None]
    found = []
    for at, (place, number) in enumerate(starts):
        wave = (ZERO, densities[at], densities[at + 1])
        found.append(Path(place, ZERO, wave, number, ZERO))
    return found


def paths_behind(paths, place, moment):
    """How many of some paths, in order of places, are behind a place at a moment."""
    return leading(paths, lambda path: is_below(path.place_at(moment), place))


def paths_up_to(paths, place, moment):
    """How many of some paths, in order of places, are behind a place or at it at a moment."""
    return leading(paths, lambda path: is_at_most(path.place_at(moment), place))


def meeting_of(path, following):
    """When a path meets the one ahead of it, if both go on as they do; None if never."""
    nearing = minus(path.speed, following.speed)
    return over(minus(following.offset, path.offset), nearing) if nearing[0] > 0 else None
