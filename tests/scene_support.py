"""What tests of scenes need: random scenes, a search of its own over all ways, places and moments to look at."""

from fractions import Fraction

from roadwaves.errors import InvalidBars
from roadwaves.scenes import scene_of
from tests.support import number, pair, raised_by, random_fraction, random_kind, random_source

ZERO = (0, 1)


def speeds_in(kind):
    """The speeds of a kind, as Python's own fractions."""
    return [(number(b[1]) - number(a[1])) / (number(b[0]) - number(a[0])) for a, b in zip(kind, kind[1:])]


def toll_of(kind, distance, duration):
    """The toll of a step; None if the kind lets no such step."""
    speeds = speeds_in(kind)
    if duration < 0 or not duration * speeds[-1] <= distance <= duration * speeds[0]:
        return None
    return max(number(flow) * duration - number(density) * distance for density, flow in kind)


def starts_in(scene):
    """The corners (PLACE, NUMBER) at the moment 0."""
    found = [(Fraction(0), Fraction(0))]
    for width, density in scene[2]:
        place, told = found[-1]
        found.append((place + number(width), told - number(width) * number(density)))
    return found


def arrivals_in(scene):
    """The corners (MOMENT, NUMBER) of those who wait or have come."""
    waiting, pieces = scene[3]
    found = [(Fraction(0), number(waiting))]
    for duration, rate in pieces:
        moment, told = found[-1]
        found.append((moment + number(duration), told + number(duration) * number(rate)))
    return found


def on_line(corners, at):
    """The height of a line through corners, level behind the last one."""
    for (one, low), (other, high) in zip(corners, corners[1:]):
        if one <= at <= other:
            return low + (high - low) * (at - one) / (other - one)
    return corners[-1][1]


def tracks_in(scene):
    """The bars as (PLACE, MOMENT, SPEED, END, RATE)."""
    found = []
    for bar in scene[4]:
        place, moment, speed, duration, rate = map(number, bar)
        found.append((place, moment, speed, moment + duration, rate))
    return found


def is_on(track, place, moment):
    """Whether a place and moment is on a bar."""
    begin, since, speed, end, _ = track
    return since <= moment <= end and begin + speed * (moment - since) == place


def corners_in(scene):
    """The corners of a scene, as [12] tells them."""
    found = [(place, Fraction(0)) for place, _ in starts_in(scene)]
    found += [(Fraction(0), moment) for moment, _ in arrivals_in(scene)]
    for place, moment, speed, end, _ in tracks_in(scene):
        found += [(place, moment), (place + speed * (end - moment), end)]
    return found


def points_through(scene, point):
    """Where the lines with the speeds of the kind through a point meet the rims and the bars."""
    place, moment = point
    length, found = number(scene[1]), []
    for speed in speeds_in(scene[0]):
        origin = place - speed * moment
        if 0 <= origin <= length:
            found.append((origin, Fraction(0)))
        if speed != 0 and moment - place / speed > 0:
            found.append((Fraction(0), moment - place / speed))
        for begin, since, pace, end, _ in tracks_in(scene):
            if speed != pace:
                met = (place - speed * moment - begin + pace * since) / (pace - speed)
                if since <= met <= end:
                    found.append((begin + pace * (met - since), met))
    return found


def searched_numbers(scene, place, moment):
    """All points of the search for the number at a place and moment, with the least number found for each."""
    end = (place, moment)
    corners = corners_in(scene) + [end]
    points = set(corners)
    for corner in corners:
        points.update(points_through(scene, corner))
    points = sorted((point for point in points if point[1] < moment or point == end), key=lambda point: point[1])
    starts, arrivals, tracks = starts_in(scene), arrivals_in(scene), tracks_in(scene)
    told = {}
    for point in points:
        found = []
        if point[1] == 0:
            found.append(on_line(starts, point[0]))
        elif point[0] == 0:
            found.append(on_line(arrivals, point[1]))
        for earlier, value in told.items():
            toll = toll_of(scene[0], point[0] - earlier[0], point[1] - earlier[1])
            if toll is not None:
                found.append(value + toll)
            for track in tracks:
                if earlier[1] < point[1] and is_on(track, *earlier) and is_on(track, *point):
                    found.append(value + track[4] * (point[1] - earlier[1]))
        told[point] = min(found) if found else None
        if told[point] is None:
            del told[point]
    return told


def searched_number(scene, place, moment):
    """The number at a place and moment (pairs), found by the search; as Python's own fraction."""
    end = (number(place), number(moment))
    return searched_numbers(scene, *end)[end]


def random_beginning(source, kind, length, pieces):
    """A beginning of a length (a fraction of Python's own) with so many pieces."""
    cuts = sorted({length * Fraction(source.randint(1, 11), 12) for _ in range(pieces - 1)})
    found = []
    for one, other in zip([Fraction(0)] + cuts, cuts + [length]):
        full = number(kind[-1][0])
        density = source.choice([Fraction(0), full, number(source.choice(kind)[0]),
                                 full * Fraction(source.randint(0, 12), 12)])
        found.append((pair(other - one), pair(density)))
    return tuple(found)


def random_comings(source, kind, pieces):
    """Comings with so many pieces."""
    top = max(number(corner[1]) for corner in kind)
    waiting = source.choice([Fraction(0), Fraction(0), Fraction(1, 2), Fraction(2)])
    found = []
    for _ in range(pieces):
        rate = source.choice([Fraction(0), top, top * Fraction(source.randint(0, 18), 12),
                              number(source.choice(kind)[1])])
        found.append((pair(random_fraction(source, 1, 3)), pair(rate)))
    return (pair(waiting), tuple(found))


def random_bar(source, kind, length):
    """A bar on a road of a length (a fraction of Python's own)."""
    free = speeds_in(kind)[0]
    top = max(number(corner[1]) for corner in kind)
    while True:
        place = length * Fraction(source.randint(0, 8), 8)
        moment = source.choice([Fraction(0), random_fraction(source, 0, 5)])
        speed = source.choice([Fraction(0), Fraction(0), free * Fraction(source.randint(0, 5), 6),
                               max(min(source.choice(speeds_in(kind)), free * Fraction(5, 6)), Fraction(0))])
        duration = source.choice([random_fraction(source, 1, 4), random_fraction(source, 1, 2)])
        if speed and source.random() < 0.2 and place < length:
            duration = (length - place) / speed
        rate = source.choice([Fraction(0), top * Fraction(source.randint(0, 12), 12)])
        if place + speed * duration <= length:
            return tuple(map(pair, (place, moment, speed, duration, rate)))


def following_bar(source, kind, length, bar):
    """A bar that begins where another one ends; None if there is no room."""
    place, moment, speed, duration, _ = map(number, bar)
    other = random_bar(source, kind, length)
    place, moment = place + speed * duration, moment + duration
    if place + number(other[2]) * number(other[3]) > length:
        return None
    return (pair(place), pair(moment)) + other[2:]


def random_bars(source, kind, length, many):
    """So many bars that may stand together on a road, or fewer."""
    found = []
    for _ in range(8 * many):
        if len(found) == many:
            break
        bar = random_bar(source, kind, length)
        if found and source.random() < 0.4:
            bar = following_bar(source, kind, length, source.choice(found)) or bar
        made = scene_parts(kind, length, tuple(found) + (bar,))
        if not isinstance(raised_by(scene_of, *made), InvalidBars):
            found.append(bar)
    return tuple(found)


def scene_parts(kind, length, bars):
    """The parts of a scene without any car."""
    return (kind, pair(length), ((pair(length), ZERO),), (ZERO, ()), bars)


def random_scene(source, bars, pieces=3):
    """A scene with at most so many bars."""
    kind = random_kind(source, source.randint(2, 4))
    if source.random() < 0.3:
        # Densities below 1 alone.
        kind = tuple((pair(number(density) / 12), pair(number(flow) / 4)) for density, flow in kind)
    length = random_fraction(source, 1, 6)
    return (kind, pair(length), random_beginning(source, kind, length, source.randint(1, pieces)),
            random_comings(source, kind, source.randint(0, pieces)), random_bars(source, kind, length, bars))


def random_point(source, scene):
    """A place of a scene's road and a moment, often such that something is there."""
    length = number(scene[1])
    place = length * Fraction(source.randint(0, 12), 12)
    moment = source.choice([Fraction(0), random_fraction(source, 0, 4), random_fraction(source, 0, 12)])
    bars = tracks_in(scene)
    if bars and source.random() < 0.5:
        begin, since, speed, end, _ = source.choice(bars)
        moment = since + (end - since) * Fraction(source.randint(0, 4), 4)
        place = begin + speed * (moment - since)
    return pair(place), pair(moment)


HALF, ONE, TWO, THREE, FOUR, FIVE, SIX = (1, 2), (1, 1), (2, 1), (3, 1), (4, 1), (5, 1), (6, 1)
ROAD = ((ZERO, ZERO), (ONE, ONE), (THREE, ZERO))
# A level top from 2 to 3, and a bend on either side.
LEVEL = ((ZERO, ZERO), (ONE, TWO), (TWO, THREE), (THREE, THREE), (FOUR, TWO), ((9, 2), ZERO))
# All speeds but the back one are above 0.
LATE = ((ZERO, ZERO), (ONE, THREE), (TWO, (9, 2)), ((5, 2), (19, 4)), ((8, 3), ZERO))
# All speeds but the free one are below 0.
STEEP = ((ZERO, ZERO), (HALF, (5, 2)), (TWO, TWO), ((7, 2), ZERO))
RED = (ONE, ONE, ZERO, TWO, ZERO)
STOP = (TWO, ONE, ZERO, TWO, ZERO)
EMPTY, COMING = ((TWO, ZERO),), (ZERO, ((FOUR, HALF),))

# The scenes of the document's examples.
LIGHT = (ROAD, TWO, EMPTY, COMING, (RED,))
LEADER = (ROAD, TWO, EMPTY, COMING, ((ZERO, ZERO, HALF, FOUR, ZERO),))
CROWD = (ROAD, TWO, EMPTY, (TWO, ()), ())
STREET = (ROAD, FOUR, ((FOUR, HALF),), (ZERO, ((SIX, HALF),)), (STOP,))
NARROW = (ROAD, FOUR, ((FOUR, ZERO),), (TWO, ()), ((TWO, ZERO, ZERO, (8, 1), HALF),))

STANDING = ((ONE, THREE), (ONE, ZERO), (TWO, HALF))
SOME_SCENES = [
    LIGHT, LEADER, CROWD, STREET, NARROW,
    # No car at all, and none but those who stand at the end.
    (ROAD, TWO, EMPTY, (ZERO, ()), ()),
    (ROAD, TWO, EMPTY, (ZERO, ((ONE, ZERO), (TWO, ZERO))), (RED,)),
    (ROAD, TWO, ((ONE, ZERO), (ONE, THREE)), (ZERO, ()), ()),
    # Red lights where cars come in and where they go out, from the moment 0 on and later.
    (ROAD, TWO, EMPTY, (ONE, ((FOUR, TWO),)), ((ZERO, ZERO, ZERO, TWO, ZERO), (TWO, ONE, ZERO, THREE, HALF))),
    (ROAD, TWO, ((TWO, TWO),), COMING, ((ZERO, ONE, ZERO, TWO, ZERO), (TWO, ZERO, ZERO, THREE, ZERO))),
    # A leader who goes from the start of the road just up to its end, and one behind the other.
    (ROAD, TWO, EMPTY, (ONE, ((FOUR, ONE),)), ((ZERO, ONE, HALF, FOUR, (1, 4)),)),
    (ROAD, FOUR, STANDING, COMING, ((ZERO, ZERO, (2, 3), THREE, ZERO), (ZERO, ONE, (1, 3), SIX, (1, 3)))),
    # Bars that begin where others end: a leader who stops and goes on, and two narrow places of one place.
    (ROAD, FOUR, ((FOUR, HALF),), (ZERO, ((SIX, ONE),)),
     ((ZERO, ZERO, HALF, TWO, ZERO), (ONE, TWO, ZERO, ONE, ZERO), (ONE, THREE, HALF, TWO, (1, 4)))),
    (ROAD, FOUR, ((FOUR, HALF),), (ZERO, ((SIX, ONE),)), ((TWO, ZERO, ZERO, TWO, HALF), (TWO, TWO, ZERO, TWO, (1, 4)))),
    # Jams at the beginning, with and without comings, and bars within the jam.
    (ROAD, FOUR, STANDING, (TWO, ((ONE, ZERO), (TWO, TWO))), ()),
    (ROAD, FOUR, ((FOUR, THREE),), (THREE, ()), ((THREE, ONE, ZERO, TWO, (1, 3)), (ONE, HALF, ZERO, THREE, (2, 3)))),
    (ROAD, FOUR, ((TWO, TWO), (TWO, (5, 2))), COMING, ((ONE, ZERO, (1, 4), SIX, (1, 8)),)),
    # Densities of a level top, at which fronts stand.
    (LEVEL, FOUR, ((ONE, TWO), (ONE, THREE), (TWO, (5, 2))), (ONE, ((TWO, THREE), (ONE, ONE))), ()),
    (LEVEL, FOUR, ((TWO, FOUR), (TWO, (9, 2))), (ZERO, ((FOUR, FOUR),)), ((THREE, ONE, ZERO, ONE, ONE),)),
    (LEVEL, SIX, ((SIX, ONE),), (ZERO, ((FOUR, TWO),)),
     ((THREE, ONE, ZERO, TWO, ZERO), (ONE, TWO, ZERO, ONE, ZERO), (FIVE, ZERO, ZERO, FIVE, ONE))),
    # First fewer come than a bar lets past, then more: a place ahead of them, their own place, and a leader.
    (ROAD, TWO, EMPTY, (ZERO, ((TWO, (1, 4)), (THREE, ONE))), ((ONE, ZERO, ZERO, (8, 1), HALF),)),
    (ROAD, TWO, EMPTY, (ZERO, ((TWO, (1, 4)), (THREE, ONE))), ((ZERO, ZERO, ZERO, FIVE, HALF),)),
    (LEVEL, FOUR, ((FOUR, ZERO),), (ZERO, ((ONE, HALF), (THREE, TWO))), ((ONE, ZERO, HALF, SIX, (5, 4)),)),
    # As many come as go with a speed between.
    (LEVEL, FOUR, ((FOUR, ZERO),), (ZERO, ((FOUR, (5, 2)), (FOUR, (11, 4)))), ()),
    (LATE, FOUR, ((FOUR, TWO),), (ZERO, ((FIVE, FOUR), (FOUR, (14, 3)))), ((THREE, TWO, ZERO, FOUR, FOUR),)),
    # Few cars on each length, and the greatest flow with very few.
    (STEEP, FOUR, ((TWO, TWO), (TWO, (3, 4))), (ONE, ((TWO, TWO),)), ((THREE, ONE, ONE, ONE, HALF),)),
    # A bar that does not bite, and one that moves with a speed of the kind.
    (ROAD, FOUR, ((FOUR, HALF),), (ZERO, ((SIX, ONE),)), ((ONE, ZERO, ZERO, SIX, ONE), (TWO, ONE, ZERO, TWO, HALF))),
    (LEVEL, FOUR, ((FOUR, ONE),), (ZERO, ((TWO, TWO),)), ((ONE, ZERO, ONE, TWO, HALF), (ZERO, HALF, ONE, TWO, ZERO))),
]


def some_scenes(seed, many):
    """The scenes by hand, and so many random ones with no, one, two and three bars."""
    source = random_source(seed)
    return SOME_SCENES + [random_scene(source, at % 4) for at in range(many)]
