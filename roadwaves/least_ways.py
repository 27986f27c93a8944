"""Least ways: the least number of all ways to a place and moment, and a way that has it.

No way needs other steps than such from a corner of the scene to a corner, and such that begin or end at a corner and
have one of the speeds of the kind; the end of the way is a corner, too. As two steps one behind the other are never
cheaper than both as one, a least way has between its rides just one step each. So it is settled, in order of time,
how cheaply each bar can be come to by such steps, and a number is the least over these and over all starts.
"""

from roadwaves.lines import height_at, leading, slopes_of
from roadwaves.rationals import ZERO, ascending_of, greatest, is_at_most, is_below, is_between, minus, over, plus
from roadwaves.rationals import times
from roadwaves.scene_parts import arrivals_line, start_line, tracks_of


class Entry:
    """A point of a bar that is come to; riding from it costs its level plus the bar's rate times the moment."""

    def __init__(self, moment, level, way):
        self.moment = moment
        self.level = level
        self.way = way


class WayFinder:
    """What is known of a scene's ways: where they start, and how the bars are come to."""

    def __init__(self, scene):
        self.kind, self.length, beginning, comings, bars = scene
        self.speeds = [(speed, step_toll(self.kind, speed, (1, 1))) for speed in slopes_of(self.kind)]
        self.starts = start_line(beginning)
        self.arrivals = arrivals_line(comings)
        self.tracks = tracks_of(bars)
        self.entries = [[] for _ in bars]

    def has_step(self, distance, duration):
        """Whether the kind lets a step, whatever its duration."""
        back, free = self.speeds[-1][0], self.speeds[0][0]
        return duration[0] >= 0 and is_between(distance, times(duration, back), times(duration, free))


def step_toll(kind, distance, duration):
    """The toll of a step that the kind lets."""
    return greatest([minus(times(flow, duration), times(density, distance)) for density, flow in kind])


def finder_up_to(scene, moment):
    """All that has to be known of a scene for ways that end up to a moment."""
    finder = WayFinder(scene)
    for place, number in finder.starts:
        enter_bars(finder, place, ZERO, number, (("start", place, ZERO),))
    for since, number in finder.arrivals[1:]:
        enter_bars(finder, ZERO, since, number, (("start", ZERO, since),))
    settled = ascending_of([track.begin for track in finder.tracks] + [track.end for track in finder.tracks])
    for since in settled:
        if is_at_most(since, moment):
            settle_bar_ends(finder, since)
    return finder


def settle_bar_ends(finder, moment):
    """Find the least ways to the bars that end or begin at a moment, and lead them on."""
    for track in finder.tracks:
        if track.end == moment:
            place = track.place_at(moment)
            number, way = least_way(finder, place, moment)
            enter_bars(finder, place, moment, number, way)
    for at, track in enumerate(finder.tracks):
        if track.begin == moment:
            number, way = least_way(finder, track.place_at(moment), moment)
            add_entry(finder.entries[at], moment, minus(number, times(track.rate, moment)), way)


def enter_bars(finder, place, moment, number, way):
    """Let a way that ends at a corner come to all bars by steps with the speeds of the kind."""
    for at, track in enumerate(finder.tracks):
        for speed, rate in finder.speeds:
            met = moment_met(track, place, moment, speed)
            if met is None or is_below(met, moment):
                continue
            reached = plus(number, times(rate, minus(met, moment)))
            longer = way if met == moment else way + (("step", track.place_at(met), met),)
            add_entry(finder.entries[at], met, minus(reached, times(track.rate, met)), longer)


def moment_met(track, place, moment, speed):
    """When the line through a place and moment with this speed meets a bar; None if it does not, or all along."""
    if track.speed == speed:
        return None
    offset = minus(place, times(speed, moment))
    met = over(minus(offset, track.offset), minus(track.speed, speed))
    return met if track.lasts_at(met) else None


def add_entry(entries, moment, level, way):
    """Put an entry among those of a bar, in order of moments, and leave out which cost no less than earlier ones."""
    at = entries_up_to(entries, moment)
    if at > 0 and is_at_most(entries[at - 1].level, level):
        return
    first = at - 1 if at > 0 and entries[at - 1].moment == moment else at
    last = at
    while last < len(entries) and is_at_most(level, entries[last].level):
        last += 1
    entries[first:last] = [Entry(moment, level, way)]


def entries_up_to(entries, moment):
    """How many entries are not behind a moment."""
    return leading(entries, lambda entry: is_at_most(entry.moment, moment))


def least_way(finder, place, moment):
    """The number at a place and moment, and a way there that has it; behind the last settled moment nothing is told."""
    found = starts_to(finder, place, moment)
    for at in range(len(finder.tracks)):
        found.extend(rides_to(finder, at, place, moment))
    number, way = found[0]
    for other, told in found:
        if is_below(other, number):
            number, way = other, told
    if way[-1][1:] != (place, moment):
        way = way + (("step", place, moment),)
    return number, way


def starts_to(finder, place, moment):
    """Pairs of a number and a way that lacks at most its last step, for ways without rides."""
    found = []
    for speed, rate in finder.speeds:
        origin = minus(place, times(speed, moment))
        if is_between(origin, ZERO, finder.length):
            number = plus(height_at(finder.starts, origin), times(rate, moment))
            found.append((number, (("start", origin, ZERO),)))
        if speed[0] > 0:
            since = minus(moment, over(place, speed))
            if since[0] > 0:
                number = plus(height_at(finder.arrivals, since), times(rate, minus(moment, since)))
                found.append((number, (("start", ZERO, since),)))
    corners = [(corner, ZERO, number) for corner, number in finder.starts]
    corners.extend([(ZERO, since, number) for since, number in finder.arrivals[1:]])
    for corner, since, number in corners:
        distance, duration = minus(place, corner), minus(moment, since)
        if finder.has_step(distance, duration):
            number = plus(number, step_toll(finder.kind, distance, duration))
            found.append((number, (("start", corner, since),)))
    return found


def rides_to(finder, at, place, moment):
    """Pairs of a number and a way that lacks at most its last step, for ways that ride last on one bar."""
    track = finder.tracks[at]
    found = []
    for speed, rate in finder.speeds:
        left = moment_met(track, place, moment, speed)
        if left is not None and is_at_most(left, moment):
            found.extend(ridden(finder, at, left, times(rate, minus(moment, left))))
    if is_at_most(track.end, moment):
        distance, duration = minus(place, track.place_at(track.end)), minus(moment, track.end)
        if finder.has_step(distance, duration):
            found.extend(ridden(finder, at, track.end, step_toll(finder.kind, distance, duration)))
    return found


def ridden(finder, at, moment, toll):
    """The least way to a bar and on it up to a moment, with a toll added, in a list; none if it is not known."""
    track, entries = finder.tracks[at], finder.entries[at]
    many = entries_up_to(entries, moment)
    if many == 0:
        return []
    entry = entries[many - 1]
    way = entry.way
    if entry.moment != moment:
        way = way + (("ride", track.place_at(moment), moment),)
    return [(plus(plus(entry.level, times(track.rate, moment)), toll), way)]
