"""The numbers that rims tell along three sides of a road's picture."""

from roadwaves.frames import Frame, frame_corners
from roadwaves.lines import height_at
from roadwaves.rationals import ZERO, is_below, plus
from roadwaves.scene_parts import start_line


class RimLines:
    """Rims as a frame and the numbers along it."""

    def __init__(self, rims):
        kind, self.length, beginning, self.coming_in, self.going_out, last = rims
        self.starts = start_line(beginning)
        places = [place for place, _ in self.starts]
        moments_in = [moment for moment, _ in self.coming_in] + [last]
        moments_out = [moment for moment, _ in self.going_out] + [last]
        self.frame = Frame(kind, self.length, last, frame_corners(self.length, places, moments_in, moments_out))

    def number_on(self, point):
        """The number at a point of the rims."""
        place, moment = point
        if moment == ZERO:
            return height_at(self.starts, place)
        return height_at(self.coming_in if place == ZERO else self.going_out, moment)

    def is_barring(self, point, following, toll):
        """Whether more cars would have to have gone by along a step than its toll lets."""
        return is_below(plus(self.number_on(point), toll), self.number_on(following))
