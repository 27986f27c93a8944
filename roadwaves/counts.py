"""Counts: how many cars have gone by at each moment, as rows of straight pieces that never fall."""

from roadwaves.errors import InvalidCounts, InvalidMoment, InvalidNumber
from roadwaves.lines import bends_of, first_reach, gap_at, greater_line, height_at, is_corner, lesser_line
from roadwaves.lines import slopes_of
from roadwaves.rationals import ZERO, is_ascending, is_below, is_content, is_fraction, merged, minus, over, plus
from roadwaves.rationals import times

TWO = (2, 1)


def is_counts(value):
    """Whether a value, whatever it is, is counts."""
    if not isinstance(value, tuple) or not value:
        return False
    if not all([is_corner(corner) for corner in value]):
        return False
    if value[0][0] != ZERO or not is_ascending([corner[0] for corner in value]):
        return False
    rates = slopes_of(value) + [ZERO]
    if any([is_below(rate, ZERO) for rate in rates]):
        return False
    return all([rate != following for rate, following in zip(rates, rates[1:])])


def number_of(counts, moment):
    """How many cars the counts tell at a moment."""
    check_counts(counts)
    check_moment(moment)
    return height_at(counts, moment)


def when(counts, number):
    """The first moment at which the counts reach a number; None if they never do."""
    check_counts(counts)
    if not is_fraction(number):
        raise InvalidNumber(number)
    return first_reach(counts, number)


def counts_sum(counts, other):
    """The counts that tell at each moment the sum of what both tell."""
    check_counts(counts)
    check_counts(other)
    moments = joint_moments(counts, other)
    sums = [plus(height_at(counts, moment), height_at(other, moment)) for moment in moments]
    return counts_through(list(zip(moments, sums)))


def least_counts(counts, other):
    """The counts that tell at each moment the lesser number of both."""
    check_counts(counts)
    check_counts(other)
    return counts_through(lesser_line(counts, other, joint_moments(counts, other)))


def greatest_counts(counts, other):
    """The counts that tell at each moment the greater number of both."""
    check_counts(counts)
    check_counts(other)
    return counts_through(greater_line(counts, other, joint_moments(counts, other)))


def later_counts(counts, moment):
    """The counts later by so much time, with their first number up to it."""
    check_counts(counts)
    check_moment(moment)
    if moment == ZERO:
        return counts
    later = [(plus(corner[0], moment), corner[1]) for corner in counts]
    return counts_through([counts[0]] + later)


def are_never_above(counts, other):
    """Whether the first counts are above the other ones at no moment."""
    check_counts(counts)
    check_counts(other)
    moments = joint_moments(counts, other)
    return not any([is_below(ZERO, gap_at(counts, other, moment)) for moment in moments])


def area_between(counts, other, last):
    """The area between the first counts and the other ones up to the last moment."""
    check_counts(counts)
    check_counts(other)
    check_moment(last)
    moments = [moment for moment in joint_moments(counts, other) if is_below(moment, last)] + [last]
    gaps = [gap_at(counts, other, moment) for moment in moments]
    doubled = ZERO
    for at in range(1, len(moments)):
        duration = minus(moments[at], moments[at - 1])
        doubled = plus(doubled, times(duration, plus(gaps[at - 1], gaps[at])))
    return over(doubled, TWO)


def check_counts(value):
    """Raise the error that is told for a parameter that has to be counts."""
    if not is_counts(value):
        raise InvalidCounts(value)


def check_moment(value):
    """Raise the error that is told for a parameter that has to be a moment."""
    if not is_content(value):
        raise InvalidMoment(value)


def joint_moments(counts, other):
    """The moments of the corners of both counts, ascending."""
    return merged([corner[0] for corner in counts], [corner[0] for corner in other])


def counts_through(corners):
    """The counts with these corners, without those that are needless."""
    kept = bends_of(corners)
    if len(kept) > 1 and kept[-1][1] == kept[-2][1]:
        kept = kept[:-1]
    return tuple(kept)
