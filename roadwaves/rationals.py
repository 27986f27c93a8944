"""Fractions: pairs (n, m) of whole numbers without a common divisor above 1, m above 0.

The questions whether a value is a fraction take any value; all else takes fractions and checks nothing.
"""

from math import gcd

ZERO = (0, 1)


def is_whole(value):
    """Whether a value is a whole number; True and False are none."""
    return isinstance(value, int) and not isinstance(value, bool)


def is_fraction(value):
    """Whether a value is a fraction."""
    if not isinstance(value, tuple) or len(value) != 2:
        return False
    upper, lower = value
    return is_whole(upper) and is_whole(lower) and lower > 0 and gcd(upper, lower) == 1


def is_fraction_within(value, low, high):
    """Whether a value is a fraction from low up to high."""
    return is_fraction(value) and is_at_most(low, value) and is_at_most(value, high)


def is_content(value):
    """Whether a value is a fraction from 0 on."""
    return is_fraction(value) and value[0] >= 0


def reduced(upper, lower):
    """The fraction that stands for upper / lower; lower may be below 0, but is not 0."""
    divisor = gcd(upper, lower)
    if lower < 0:
        divisor = -divisor
    return (upper // divisor, lower // divisor)


def plus(one, other):
    """The sum of two fractions."""
    return reduced(one[0] * other[1] + other[0] * one[1], one[1] * other[1])


def minus(one, other):
    """The first fraction less the second one."""
    return reduced(one[0] * other[1] - other[0] * one[1], one[1] * other[1])


def times(one, other):
    """The product of two fractions."""
    return reduced(one[0] * other[0], one[1] * other[1])


def over(one, other):
    """The first fraction divided by the second one, which is not 0."""
    return reduced(one[0] * other[1], one[1] * other[0])


def is_below(one, other):
    """Whether the first fraction is less than the second one."""
    return one[0] * other[1] < other[0] * one[1]


def is_at_most(one, other):
    """Whether the first fraction is not above the second one."""
    return one[0] * other[1] <= other[0] * one[1]


def lesser(one, other):
    """The lesser one of two fractions."""
    return one if is_at_most(one, other) else other


def greater(one, other):
    """The greater one of two fractions."""
    return other if is_at_most(one, other) else one


def greatest(fractions):
    """The greatest one of a list of fractions that is not empty."""
    found = fractions[0]
    for fraction in fractions:
        found = greater(found, fraction)
    return found


def is_ascending(fractions):
    """Whether each fraction of a list is above the one before it."""
    return all([is_below(one, other) for one, other in zip(fractions, fractions[1:])])


def merged(first, second):
    """The fractions of two ascending lists as one ascending list; what stands in both stands in it once."""
    found = []
    at, by = 0, 0
    while at < len(first) and by < len(second):
        following = lesser(first[at], second[by])
        found.append(following)
        if first[at] == following:
            at += 1
        if second[by] == following:
            by += 1
    return found + first[at:] + second[by:]


def is_amount(value):
    """Whether a value is a fraction above 0."""
    return is_fraction(value) and value[0] > 0


def is_between(fraction, low, high):
    """Whether a fraction is from low up to high."""
    return is_at_most(low, fraction) and is_at_most(fraction, high)


def halfway(one, other):
    """The fraction in the middle between two."""
    return reduced(one[0] * other[1] + other[0] * one[1], 2 * one[1] * other[1])


def total_of(fractions):
    """The sum of a list of fractions."""
    found = ZERO
    for fraction in fractions:
        found = plus(found, fraction)
    return found


def least(fractions):
    """The least one of a list of fractions that is not empty."""
    found = fractions[0]
    for fraction in fractions:
        found = lesser(found, fraction)
    return found


def ascending_of(fractions):
    """The fractions of a list in ascending order; what stands in it several times stands in the new one once."""
    if len(fractions) < 2:
        return list(fractions)
    middle = len(fractions) // 2
    return merged(ascending_of(fractions[:middle]), ascending_of(fractions[middle:]))


def floor_of(fraction):
    """The greatest whole number that is not above a fraction."""
    return fraction[0] // fraction[1]


def ceiling_of(fraction):
    """The least whole number that is not below a fraction."""
    return -(-fraction[0] // fraction[1])
