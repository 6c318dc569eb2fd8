"""Diagonal forms a1 * x1 * x1 + .. + as * xs * xs: in how many ways they are a number."""

from math import isqrt

from etasure.arithmetic import lcm_of
from etasure.checks import GREATEST_LEVEL, check_most, is_number_tuple
from etasure.errors import BadForm, TooMany
from etasure.quotients import product_of_quotients

MOST_NUMBERS = 12
GREATEST_NUMBER_IN_FORM = 90
# A form that is each number up to 15 is each number (Conway, Schneeberger; Bhargava).
LAST_THAT_TELLS = 15


def is_form(thing):
    """Whether it is an ascending tuple of 1 to 12 numbers from 1 to 90."""
    if not is_number_tuple(thing) or not 1 <= len(thing) <= MOST_NUMBERS:
        return False
    if not all([1 <= a <= GREATEST_NUMBER_IN_FORM for a in thing]):
        return False
    return all([one <= other for one, other in zip(thing, thing[1:])])


def check_form(form):
    """BadForm unless it is a form."""
    if not is_form(form):
        raise BadForm("a form is an ascending tuple of 1 to 12 numbers from 1 to 90")


def form_row(form, most):
    """For each n from 0 to most in how many ways the form is n."""
    check_form(form)
    check_most(most)
    row = [1] + [0] * most
    for a in form:
        row = _with_square(row, a)
    return row


def _with_square(row, a):
    """The ways, told by those without it, with one more number a * x * x."""
    ways = list(row)
    for x in range(1, isqrt((len(row) - 1) // a) + 1):
        step = a * x * x
        for n in range(step, len(row)):
            # Both signs of x.
            ways[n] += 2 * row[n - step]
    return ways


def form_term(form):
    """The term whose coefficients are the ways."""
    check_form(form)
    if not has_level(form):
        raise TooMany(GREATEST_LEVEL)
    quotient = {}
    for a in form:
        quotient = product_of_quotients(quotient, {a: -2, 2 * a: 5, 4 * a: -2})
    return (1, quotient, ())


def has_level(form):
    """Whether there is a level that all 4 * a divide."""
    return lcm_of([4 * a for a in form]) <= GREATEST_LEVEL


def least_missed(form):
    """The least n from 1 on that the form is in no way; None if it is each n."""
    missed = gaps_of(form, LAST_THAT_TELLS)
    return missed[0] if missed else None


def gaps_of(form, most):
    """The ascending list of the n from 1 to most that the form is in no way."""
    row = form_row(form, most)
    return [n for n in range(1, most + 1) if row[n] == 0]
