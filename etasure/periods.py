"""Products with a period N: of E(g), g from 1 to N // 2, that begin with a power of q and have the factors
(1 - q ** ((m - 1) * N + g)) * (1 - q ** (m * N - g)) for all m from 1 on.
"""

from math import gcd

from etasure.checks import check_most, is_number, is_within
from etasure.errors import BadMatrix, BadNumber, BadPeriod, BadProduct, TooMany
from etasure.matrices import check_cusp, check_upright
from etasure.products import row_from_sums, sums_over_divisors
from etasure.quotients import GREATEST_EXPONENT, bounded_quotient
from etasure.ratios import ratio_of
from etasure.roots import root_of

GREATEST_PERIOD = 60


def check_period(period):
    """BadPeriod unless it is a period."""
    if not is_within(period, 2, GREATEST_PERIOD):
        raise BadPeriod("a period is a number from 2 to 60")


def is_period_product(period, thing):
    """Whether it is a period product."""
    check_period(period)
    return is_product(period, thing)


def is_product(period, thing):
    """As is_period_product, of what is known to be a period."""
    if not isinstance(thing, dict):
        return False
    return all([_is_item(period, g, r) for g, r in thing.items()])


def _is_item(period, g, r):
    """Whether g and r may stand in a period product."""
    return is_within(g, 1, period // 2) and is_within(r, -GREATEST_EXPONENT, GREATEST_EXPONENT) and r != 0


def check_product(period, product):
    """BadPeriod, BadProduct unless it is a period product."""
    if not is_period_product(period, product):
        raise BadProduct("a period product is a dict from numbers from 1 to half the period to exponents")


def folded(period, g):
    """(sign, h) with h from 1 to half the period and E(g) = sign * E(h)."""
    check_period(period)
    if not is_number(g) or g % period == 0:
        raise BadNumber("g is a number that the period does not divide")
    return folded_number(period, g)


def folded_number(period, g):
    """As folded, of what is known to be right."""
    rest = g % period
    return (1 if g // period % 2 == 0 else -1, min(rest, period - rest))


def period_start(period, product):
    """The exponent of the first term, a ratio."""
    check_product(period, product)
    return ratio_of(product_start(period, product), 12 * period)


def product_start(period, product):
    """12 * N times the exponent of the first term."""
    return sum([r * (6 * g * g - 6 * g * period + period * period) for g, r in product.items()])


def period_row(period, product, most):
    """The coefficients behind the exponent of the first term."""
    check_product(period, product)
    check_most(most)
    powers = [0] * (most + 1)
    put_product(powers, period, product)
    return row_from_sums(sums_over_divisors(powers[1:], most + 1))


def put_product(powers, period, product):
    """Put all factors into a list of the powers of (1 - q ** n) ** -1, by n."""
    for g, r in product.items():
        # Both kinds of factors are the same for twice g = N.
        for first in (g, period - g):
            for n in range(first, len(powers), period):
                powers[n] -= r


def stretched(period, product, k):
    """The period product, with k times the period, that the product is at k * tau."""
    _check_times(period, product, k)
    return {k * g: product[g] for g in sorted(product)}


def _check_times(period, product, k):
    """BadPeriod, BadProduct, BadNumber; TooMany(60) if k times the period is no period."""
    check_product(period, product)
    if not is_number(k) or k < 1:
        raise BadNumber("k is a number from 1 on")
    if k * period > GREATEST_PERIOD:
        raise TooMany(GREATEST_PERIOD)


def refined(period, product, k):
    """The period product, with k times the period, that the product is itself."""
    _check_times(period, product, k)
    exponents = {}
    for g, r in product.items():
        for place in range(g, k * period, period):
            _, h = folded_number(k * period, place)
            exponents[h] = exponents.get(h, 0) + r
    return bounded_quotient(exponents)


def whole_period(period):
    """The product of all E(g), g from 1 to N - 1."""
    check_period(period)
    return {g: 1 if 2 * g == period else 2 for g in range(1, period // 2 + 1)}


def period_moved(period, product, matrix):
    """(ratio, other): the product moves with the matrix to e(ratio) * other."""
    check_product(period, product)
    check_upright(matrix)
    if matrix[2] % period != 0:
        raise BadMatrix("the period must divide the third number of the matrix")
    parts = moved_parts(period, product, matrix)
    other = {folded_number(period, matrix[0] * g)[1]: r for g, r in product.items()}
    return (ratio_of(parts, 12 * period), {h: other[h] for h in sorted(other)})


def moved_parts(period, product, matrix):
    """12 * N times the ratio of period_moved, from 0 on."""
    a, b, c, d = matrix
    root = root_of((a, b * period, c // period, d))
    parts = 0
    for g, r in product.items():
        sign, _ = folded_number(period, a * g)
        one = root * period + 6 * g * b * period + 6 * g * g * a * b
        parts += r * (one if sign == 1 else one + 6 * period)
    return parts % (12 * period)


def period_order(period, product, cusp):
    """The exponent of q, a ratio, with which the product begins at the cusp."""
    check_product(period, product)
    check_cusp(cusp)
    return order_of_product(period, product, cusp)


def order_of_product(period, product, cusp):
    """As period_order, of what is known to be right."""
    a, c = cusp
    common = gcd(c, period)
    parts = 0
    for g, r in product.items():
        x = a * g % common
        # 6 times common * common times B(x / common).
        parts += r * (6 * x * x - 6 * x * common + common * common)
    return ratio_of(parts, 12 * period)
