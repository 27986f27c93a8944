"""Straight forms of several numbers: which numbers let none of them be below 0, and where one of them is least.

A form is a pair (SLOPES, CONSTANT): a list of fractions, one for each number, and a fraction. All is reckoned in whole
numbers over one scale, so that nothing has to be reduced on the way.
"""

from math import gcd, lcm

from roadwaves.rationals import ZERO, minus, plus, reduced, times


class Row:
    """A form that is not to be below 0, in whole numbers: `scale` times the form in fractions."""

    def __init__(self, slopes, constant, scale):
        self.slopes = slopes
        self.constant = constant
        self.scale = scale


class Vertex:
    """A point at which chosen rows are 0, as many as there are numbers.

    `lines` has for each chosen row the direction along which that row grows by `scale` and the other ones stay 0.
    """

    def __init__(self, rows, chosen):
        self.rows = rows
        self.chosen = list(chosen)
        # Each of the rows chosen first hangs on one number alone, in the order of the numbers.
        steep = [rows[index].slopes[at] for at, index in enumerate(chosen)]
        self.scale = 1
        for slope in steep:
            self.scale *= abs(slope)
        many = len(steep)
        self.lines = [[0] * at + [self.scale // steep[at]] + [0] * (many - at - 1) for at in range(many)]

    def scaled_point(self):
        """The point, `scale` times."""
        found = [0] * len(self.lines)
        for index, line in zip(self.chosen, self.lines):
            constant = self.rows[index].constant
            found = [one - constant * other for one, other in zip(found, line)]
        return found

    def first_below(self):
        """The index of the first row that is below 0 here; None if there is none."""
        point = self.scaled_point()
        for index, row in enumerate(self.rows):
            if dot(row.slopes, point) + row.constant * self.scale < 0:
                return index
        return None

    def growth(self, slopes):
        """How much a form with these slopes grows along each line."""
        return [dot(slopes, line) for line in self.lines]

    def exchange(self, at, index, growth):
        """Choose a row in the place of one of those chosen; its growth along that one's line is above 0."""
        pace, leading = growth[at], self.lines[at]
        # What is divided here is a whole number of times the scale: a rule of determinants.
        lines = [[(pace * one - drift * two) // self.scale for one, two in zip(line, leading)]
                 for drift, line in zip(growth, self.lines)]
        lines[at] = leading
        self.lines = lines
        self.scale = pace
        self.chosen[at] = index

    def numbers(self):
        """The point, as fractions."""
        return [reduced(upper, self.scale) for upper in self.scaled_point()]


def row_of(form):
    """The row of a form in fractions."""
    slopes, constant = form
    scale = constant[1]
    for slope in slopes:
        scale = lcm(scale, slope[1])
    return Row([slope[0] * (scale // slope[1]) for slope in slopes], constant[0] * (scale // constant[1]), scale)


def dot(one, other):
    """The sum of the products of two lists of whole numbers, element by element."""
    return sum([first * second for first, second in zip(one, other)])


def least_point(goal, rows, chosen):
    """The point at which a goal is least among those at which no row is below 0, and None.

    If there is no such point: None, and weights, pairs of the index of a row and a whole number, by which the forms
    of the rows add up to one number below 0. The goal is slopes in whole numbers; it must be least where the chosen
    rows, each of which hangs on one number alone, are 0 and these rows alone count.
    """
    vertex = Vertex(rows, chosen)
    while True:
        # First ones are taken throughout, as otherwise one might come round to the same point again (Bland 1977).
        index = vertex.first_below()
        if index is None:
            return vertex.numbers(), None
        growth = vertex.growth(rows[index].slopes)
        at = leaving_row(vertex, vertex.growth(goal), growth)
        if at is None:
            return None, weights_of(vertex, index, growth)
        vertex.exchange(at, index, growth)


def leaving_row(vertex, paces, growth):
    """Which of the chosen rows has to leave for another one for the goal to stay least; None if none can."""
    found = None
    for at, pace in enumerate(paces):
        if growth[at] <= 0:
            continue
        if found is None:
            found = at
            continue
        ahead = pace * growth[found] - paces[found] * growth[at]
        if ahead < 0 or (ahead == 0 and vertex.chosen[at] < vertex.chosen[found]):
            found = at
    return found


def weights_of(vertex, index, growth):
    """The weights of a row that is below 0 and grows along no line, and of the chosen rows that hold it."""
    found = [(index, vertex.rows[index].scale * vertex.scale)]
    for other, pace in zip(vertex.chosen, growth):
        if pace != 0:
            found.append((other, -pace * vertex.rows[other].scale))
    divisor = 0
    for _, weight in found:
        divisor = gcd(divisor, weight)
    return [(other, weight // divisor) for other, weight in found]


def value_of(form, numbers):
    """What a form is for some numbers."""
    slopes, found = form
    for slope, number in zip(slopes, numbers):
        found = plus(found, times(slope, number))
    return found


def form_less(form, other):
    """The first form less the second one."""
    return [minus(one, two) for one, two in zip(form[0], other[0])], minus(form[1], other[1])


def forms_sum(forms, weights):
    """The sum of forms, each as many times as a fraction tells."""
    found, constant = [ZERO] * len(forms[0][0]), ZERO
    for (slopes, level), weight in zip(forms, weights):
        found = [plus(one, times(weight, slope)) for one, slope in zip(found, slopes)]
        constant = plus(constant, times(weight, level))
    return found, constant
