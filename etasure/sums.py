"""Sums of terms."""

from etasure.arithmetic import lcm_of
from etasure.checks import GREATEST_LEVEL
from etasure.errors import BadLevel, BadPair, BadQuotient, BadRatio, BadSum, TooMany
from etasure.quotients import is_quotient, pairs_of
from etasure.ratios import is_ratio, ratio_of
from etasure.terms import is_term, level_of_term, product_of_terms, row_of_term, start_parts

MOST_TERMS = 40
GREATEST_DISTANCE = 3000


def is_sum(thing):
    """Whether it is a list of at most 40 terms."""
    return isinstance(thing, (list, tuple)) and len(thing) <= MOST_TERMS and all([is_term(part) for part in thing])


def check_sum(terms):
    """BadSum unless it is a sum."""
    if not is_sum(terms):
        raise BadSum("a sum is a list of at most 40 terms")


def sum_level(terms):
    """The least common multiple of the levels of the terms."""
    check_sum(terms)
    return level_of_sum(terms)


def level_of_sum(terms):
    """As sum_level, of what is known to be right."""
    return lcm_of([level_of_term(term) for term in terms])


def check_bears(level, terms):
    """BadLevel unless the level is divisible by the levels of all terms."""
    if level % level_of_sum(terms) != 0:
        raise BadLevel("the level must be divisible by the levels of all terms")


def coefficients(terms, last):
    """The dict from all exponents up to last at which the coefficient of the sum is not 0 to this coefficient."""
    check_sum(terms)
    if not is_ratio(last):
        raise BadRatio("a ratio is needed")
    above, below = last
    if not all([24 * above - start_parts(term) * below <= 24 * GREATEST_DISTANCE * below for term in terms]):
        raise TooMany(GREATEST_DISTANCE)
    found = coefficients_by_parts(terms, 24 * above // below)
    return {ratio_of(parts, 24): found[parts] for parts in found}


def coefficients_by_parts(terms, last):
    """The ascending dict from 24 times the exponents to the coefficients but 0, up to 24 times the last one."""
    found = {}
    for term in terms:
        start = start_parts(term)
        if start <= last:
            for n, x in enumerate(row_of_term(term, (last - start) // 24)):
                found[start + 24 * n] = found.get(start + 24 * n, 0) + x
    return {parts: found[parts] for parts in sorted(found) if found[parts] != 0}


def collected(terms):
    """The sum with terms of equal quotient and equal pieces put together, ascending by these."""
    check_sum(terms)
    return _checked(_put_together(terms))


def _put_together(terms):
    """As collected; what comes may be no sum."""
    numbers = {}
    for number, quotient, pieces in terms:
        key = (pairs_of(quotient), pieces)
        numbers[key] = numbers.get(key, 0) + number
    return [(numbers[key], dict(key[0]), key[1]) for key in sorted(numbers) if numbers[key] != 0]


def _checked(terms):
    """The terms; BadPair if they are no sum."""
    if not is_sum(terms):
        raise BadPair("what comes is no sum")
    return terms


def sum_times(one, other):
    """The products of each term of one with each of other, collected."""
    check_sum(one)
    check_sum(other)
    products = []
    for term in one:
        products.extend([product_of_terms(term, factor) for factor in other])
    if not all([is_term(product) for product in products]):
        raise BadPair("a product is no term")
    return _checked(_put_together(products))


def slope(quotient):
    """The sum of the terms (r, quotient, (("two", d),)) for all pairs (d, r) of the quotient but that with d = 1."""
    if not is_quotient(quotient) or lcm_of(quotient) > GREATEST_LEVEL:
        raise BadQuotient("a quotient that some level bears is needed")
    pairs = pairs_of(quotient)
    return [(r, dict(pairs), (("two", d),)) for d, r in pairs if d > 1]
