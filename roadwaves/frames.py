"""Frames: three sides of a road's picture, both ends of the road up to a last moment and its places at the moment 0.

Which steps from side to side have to be looked at does not hang on the numbers that are told along the sides.
"""

from roadwaves.errors import InvalidMoment, InvalidPlace
from roadwaves.least_ways import step_toll
from roadwaves.lines import slopes_of
from roadwaves.rationals import ZERO, ascending_of, is_below, is_between, is_fraction_within, minus, over, plus, times


class Frame:
    """The sides of the picture of a road, with corners on them between which their numbers are straight."""

    def __init__(self, kind, length, last, corners):
        self.kind = kind
        self.length = length
        self.last = last
        self.corners = corners
        self.speeds = slopes_of(kind)

    def has_point(self, point):
        """Whether a place and moment is a point of the frame."""
        place, moment = point
        if not is_between(place, ZERO, self.length) or not is_between(moment, ZERO, self.last):
            return False
        return ZERO in (place, moment) or place == self.length

    def toll_between(self, point, following):
        """The toll of the step from one place and moment to another one; None if the kind lets none."""
        distance, duration = minus(following[0], point[0]), minus(following[1], point[1])
        back, free = times(duration, self.speeds[-1]), times(duration, self.speeds[0])
        if duration[0] < 0 or not is_between(distance, back, free):
            return None
        return step_toll(self.kind, distance, duration)

    def points_through(self, point):
        """The points of the frame on the lines with the speeds of the kind through a place and moment."""
        place, moment = point
        found = []
        for speed in self.speeds:
            origin = minus(place, times(speed, moment))
            if is_between(origin, ZERO, self.length):
                found.append((origin, ZERO))
            if speed != ZERO:
                met = [(end, plus(moment, over(minus(end, place), speed))) for end in (ZERO, self.length)]
                found.extend([other for other in met if is_between(other[1], ZERO, self.last)])
        return found

    def steps(self):
        """The steps (POINT, POINT, TOLL) of which one bars numbers along the frame, if any step does."""
        pairs = {}
        for corner in self.corners:
            for point in self.corners + self.points_through(corner):
                if is_below(point[1], corner[1]):
                    pairs[(point, corner)] = True
                elif is_below(corner[1], point[1]):
                    pairs[(corner, point)] = True
        found = [(point, following, self.toll_between(point, following)) for point, following in pairs]
        return [step for step in found if step[2] is not None]

    def sources(self, point):
        """Pairs of a point of the frame and the toll from there to a place and moment, among them one of the least."""
        origins = self.corners + self.points_through(point)
        if self.has_point(point):
            origins.append(point)
        found = [(origin, self.toll_between(origin, point)) for origin in origins]
        return [source for source in found if source[1] is not None]


def frame_corners(length, places, moments_in, moments_out):
    """The corners of a frame, of places and of moments at both ends that may have been told several times."""
    corners = [(place, ZERO) for place in ascending_of([ZERO, length] + places)]
    corners.extend([(ZERO, moment) for moment in ascending_of(moments_in) if moment != ZERO])
    corners.extend([(length, moment) for moment in ascending_of(moments_out) if moment != ZERO])
    return corners


def check_point(length, last, place, moment):
    """Raise the errors that are told for a place and a moment between the sides of a frame."""
    if not is_fraction_within(place, ZERO, length):
        raise InvalidPlace(place)
    if not is_fraction_within(moment, ZERO, last):
        raise InvalidMoment(moment)
