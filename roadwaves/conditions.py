"""Conditions of numbers that fit a book and sights: straight forms that have to be from 0 on."""

from roadwaves.book_parts import BookLines
from roadwaves.lines import is_corner
from roadwaves.rationals import ZERO, is_below, is_whole, minus
from roadwaves.straight_forms import Row, form_less, least_point, row_of, value_of

ONE = (1, 1)


class Conditions:
    """The conditions of a book and its sights that are enough, each with the row of its form."""

    def __init__(self, book, sights):
        self.lines = BookLines(book)
        self.sights = sights
        bounds = []
        for index in range(len(self.lines.pieces)):
            bounds.extend([("least", index), ("most", index)])
        # Two for each number, in front: here it is begun to look for numbers.
        self.bound_rows = self.with_rows(bounds)
        self.step_rows = self.with_rows([("step", step[0], step[1]) for step in self.lines.frame.steps()])

    def with_rows(self, conditions):
        """Pairs of a condition and its row."""
        return [(condition, row_of(form_of(self.lines, self.sights, condition))) for condition in conditions]

    def keeping(self, indexes):
        """Pairs of a condition and its row, of those sights alone that have these indexes."""
        told = []
        for index in indexes:
            told.extend([("over", index), ("under", index)])
        return self.bound_rows + self.with_rows(told) + self.step_rows

    def all_kept(self):
        """Pairs of a condition and its row, of all sights."""
        return self.keeping(list(range(len(self.sights))))


def form_of(lines, sights, condition):
    """The form of a condition of a book and sights; None for what is none, whatever it is."""
    if not isinstance(condition, tuple) or not condition or not isinstance(condition[0], str):
        return None
    if condition[0] == "step":
        return form_of_step(lines, condition)
    if len(condition) != 2 or not is_whole(condition[1]) or condition[1] < 0:
        return None
    word, index = condition
    if word in ("least", "most") and index < len(lines.pieces):
        _, low, high = lines.pieces[index]
        slopes = [ONE if at == index else ZERO for at in range(len(lines.pieces))]
        return form_between((slopes, ZERO), low, high, word == "least")
    if word in ("over", "under") and index < len(sights):
        side, first, last, low, high = sights[index]
        return form_between(lines.cars_form(side, first, last), low, high, word == "over")
    return None


def form_between(form, low, high, is_over):
    """The form of how far a form is above the low bound, or else below the high one."""
    none = [ZERO] * len(form[0])
    return form_less(form, (none, low)) if is_over else form_less((none, high), form)


def form_of_step(lines, condition):
    """The form of a condition of a step; None if it is none."""
    if len(condition) != 3 or not is_corner(condition[1]) or not is_corner(condition[2]):
        return None
    _, point, following = condition
    if not lines.frame.has_point(point) or not lines.frame.has_point(following):
        return None
    toll = lines.frame.toll_between(point, following)
    return None if toll is None else form_less(lines.way_form(point, toll), lines.number_form(following))


def numbers_or_weights(told):
    """Any numbers with which all conditions told hold, and None; if there are none, None and weights."""
    return least_numbers(told, [1] * len(told[0][1].slopes))


def least_numbers(told, goal):
    """The numbers with which all conditions told hold for which a goal is least, and None; else None and weights."""
    rows = [row for _, row in told]
    numbers, weights = least_point(goal, rows, bounds_for(goal))
    if numbers is None:
        return None, tuple([(told[at][0], (weight, 1)) for at, weight in weights])
    return tuple(numbers), None


def bounds_for(goal):
    """The indexes of the bounds of the numbers at which a goal is least, nothing else being asked."""
    return [2 * at if slope >= 0 else 2 * at + 1 for at, slope in enumerate(goal)]


def least_of(told, form):
    """The least that a form is with numbers with which all conditions told hold, and such numbers; else None."""
    numbers = least_numbers(told, row_of(form).slopes)[0]
    return None if numbers is None else (value_of(form, numbers), numbers)


def greatest_of(told, form):
    """The greatest that a form is with numbers with which all conditions told hold, and such numbers; else None."""
    found = least_of(told, form_less(([ZERO] * len(form[0]), ZERO), form))
    return None if found is None else (minus(ZERO, found[0]), found[1])


def least_of_several(told, forms):
    """The least that any of several forms is, and such numbers; None if no numbers fit."""
    found = least_of(told, forms[0])
    if found is None:
        return None
    for form in forms[1:]:
        other = least_of(told, form)
        if is_below(other[0], found[0]):
            found = other
    return found


def greatest_least(told, forms):
    """The greatest that the least one of several forms is, and such numbers; some numbers fit.

    One more number tells how far the first form is above the least one; it is to be small, and the first form great.
    """
    first, none = forms[0], [ZERO] * len(forms[0][0])
    rows = [Row(row.slopes + [0], row.constant, row.scale) for _, row in told]
    rows.append(row_of((none + [ONE], ZERO)))
    for form in forms[1:]:
        slopes, constant = form_less(form, first)
        rows.append(row_of((slopes + [ONE], constant)))
    goal = row_of((form_less((none, ZERO), first)[0] + [ONE], ZERO)).slopes
    numbers = least_point(goal, rows, bounds_for(goal[:-1]) + [len(told)])[0][:-1]
    value = value_of(first, numbers)
    for form in forms[1:]:
        other = value_of(form, numbers)
        if is_below(other, value):
            value = other
    return value, tuple(numbers)


def number_extremes(conditions, point):
    """The least and the greatest number at a place and moment, each with numbers that fit for it; None."""
    frame = conditions.lines.frame
    forms = [conditions.lines.way_form(origin, toll) for origin, toll in frame.sources(point)]
    told = conditions.all_kept()
    least = least_of_several(told, forms)
    return None if least is None else (least, greatest_least(told, forms))
