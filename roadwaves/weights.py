"""Weights: what shows that no numbers fit a book and sights."""

from roadwaves.book_parts import BookLines
from roadwaves.conditions import form_of
from roadwaves.rationals import ZERO, is_amount
from roadwaves.straight_forms import forms_sum


def are_weights(book, sights, value):
    """Whether a value, whatever it is, is weights by which the conditions add up to one number below 0."""
    if not isinstance(value, tuple) or not value:
        return False
    if not all([isinstance(pair, tuple) and len(pair) == 2 and is_amount(pair[1]) for pair in value]):
        return False
    lines = BookLines(book)
    forms = [form_of(lines, sights, condition) for condition, _ in value]
    if None in forms or len(set([condition for condition, _ in value])) != len(value):
        return False
    slopes, constant = forms_sum(forms, [amount for _, amount in value])
    return constant[0] < 0 and all([slope == ZERO for slope in slopes])
