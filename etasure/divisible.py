"""What divides the coefficients of a sum at all exponents."""

from etasure.arithmetic import bezout, greatest_divisor
from etasure.checks import is_number, is_within
from etasure.equal import are_known, check_level_and_sum, check_two_sums
from etasure.errors import BadNumber
from etasure.ratios import is_ratio
from etasure.sums import GREATEST_DISTANCE, coefficients_by_parts
from etasure.tables import negated, one_table
from etasure.terms import GREATEST_NUMBER


def content(level, terms):
    """The greatest number that divides all coefficients; 0 if all are 0."""
    check_level_and_sum(level, terms)
    return greatest_divisor(one_table(level, terms).totals())


def balance(level, terms):
    """Numbers at exponents, as a dict, whose products with the coefficients there come to the content."""
    check_level_and_sum(level, terms)
    table = one_table(level, terms)
    common = 0
    numbers = {}
    for n, total in enumerate(table.totals()):
        if total == 0 or common != 0 and total % common == 0:
            continue
        common, times, new = bezout(common, abs(total))
        numbers = {at: times * numbers[at] for at in numbers}
        numbers[n] = new if total > 0 else -new
    return {table.exponent(n): numbers[n] for n in numbers if numbers[n] != 0}


def is_balance(level, terms, thing):
    """Whether it is a balance of the sum at the level."""
    check_level_and_sum(level, terms)
    table = one_table(level, terms)
    if not isinstance(thing, dict) or not thing:
        return False
    if not all([is_ratio(exponent) and is_number(x) and x != 0 for exponent, x in thing.items()]):
        return False
    worth = _balanced(table, terms, thing)
    whole = greatest_divisor(table.totals())
    return worth is not None and worth > 0 and whole != 0 and whole % worth == 0


def _balanced(table, terms, numbers):
    """The sum of the numbers times the coefficients at these exponents; None if one of them is too far away."""
    last = table.first
    for above, below in numbers:
        if 24 * above - table.first * below > 24 * GREATEST_DISTANCE * below:
            return None
        # At other exponents all coefficients are 0.
        if 24 * above % below == 0 and (24 * above // below - table.first) % 24 == 0:
            last = max(last, 24 * above // below)
    if not are_known(terms, last):
        return None
    found = coefficients_by_parts(terms, last)
    return sum([x * found.get(24 * above // below, 0) for (above, below), x in numbers.items()
                if 24 * above % below == 0])


def check_divisor(u):
    """BadNumber unless it is a number from 1 to 10 ** 60."""
    if not is_within(u, 1, GREATEST_NUMBER):
        raise BadNumber("u is a number from 1 to 10 ** 60")


def first_undivided(level, terms, u):
    """The least exponent whose coefficient u does not divide; None if there is none."""
    check_level_and_sum(level, terms)
    check_divisor(u)
    return _least_undivided(one_table(level, terms), u)


def _least_undivided(table, u):
    """The least exponent of the table at which u does not divide the coefficient of the sum; None without any."""
    place = place_undivided(table.totals(), u)
    return None if place is None else table.exponent(place)


def place_undivided(numbers, u):
    """The place of the first number that u does not divide; None if there is none."""
    for place, x in enumerate(numbers):
        if x % u != 0:
            return place
    return None


def first_incongruent(level, one, other, u):
    """The least exponent at which the coefficients of both sums are unlike modulo u; None if there is none."""
    check_two_sums(level, one, other)
    check_divisor(u)
    return _least_undivided(one_table(level, list(one) + negated(other)), u)
