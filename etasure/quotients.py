"""Quotients: products of eta(d * tau) ** r, as dicts from d to r."""

from etasure.arithmetic import greatest_divisor, lcm_of
from etasure.checks import GREATEST_LEVEL, check_most, is_within
from etasure.errors import BadNumber, BadQuotient, TooMany
from etasure.products import row_from_sums, sums_over_divisors
from etasure.ratios import ratio_of
from etasure.series import eta_power_series, series_spread, series_times

GREATEST_FACTOR = 360
GREATEST_EXPONENT = 99
FEW_FACTORS = 2


def is_quotient(thing):
    """Whether it is a dict from numbers from 1 to 360 to numbers from -99 to 99 but 0."""
    if not isinstance(thing, dict):
        return False
    return all([_is_item(d, r) for d, r in thing.items()])


def _is_item(d, r):
    """Whether d and r may stand in a quotient."""
    return is_within(d, 1, GREATEST_FACTOR) and is_within(r, -GREATEST_EXPONENT, GREATEST_EXPONENT) and r != 0


def check_quotient(quotient):
    """BadQuotient unless it is a quotient."""
    if not is_quotient(quotient):
        raise BadQuotient("a quotient is a dict from numbers from 1 to 360 to exponents from -99 to 99 but 0")


def pairs_of(quotient):
    """The ascending tuple of the pairs (d, r) of the quotient."""
    check_quotient(quotient)
    return tuple(sorted(quotient.items()))


def weight_of(quotient):
    """Half the sum of the exponents, a ratio."""
    check_quotient(quotient)
    return ratio_of(sum(quotient.values()), 2)


def start_of(quotient):
    """The exponent of the first term, a ratio."""
    check_quotient(quotient)
    return ratio_of(sum([d * r for d, r in quotient.items()]), 24)


def least_level(quotient):
    """The least level that bears the quotient."""
    check_quotient(quotient)
    level = lcm_of(quotient)
    if level > GREATEST_LEVEL:
        raise TooMany(GREATEST_LEVEL)
    return level


def joined(one, other):
    """The product of both quotients."""
    check_quotient(one)
    check_quotient(other)
    return bounded_quotient(product_of_quotients(one, other))


def product_of_quotients(one, other):
    """The product of both, with ascending keys and exponents of any size."""
    exponents = {d: one[d] for d in one}
    for d, r in other.items():
        exponents[d] = exponents.get(d, 0) + r
    return {d: exponents[d] for d in sorted(exponents) if exponents[d] != 0}


def raised(quotient, k):
    """The k-th power of the quotient."""
    check_quotient(quotient)
    if not is_within(k, -GREATEST_EXPONENT, GREATEST_EXPONENT):
        raise BadNumber("k is a number from -99 to 99")
    return bounded_quotient({d: r * k for d, r in quotient.items()})


def bounded_quotient(exponents):
    """The quotient with these exponents, 0 left out; TooMany(99) if one is beyond the bounds."""
    if not all([abs(r) <= GREATEST_EXPONENT for r in exponents.values()]):
        raise TooMany(GREATEST_EXPONENT)
    return {d: exponents[d] for d in sorted(exponents) if exponents[d] != 0}


def spread_out(quotient, m):
    """The quotient at m * tau."""
    check_quotient(quotient)
    if not is_within(m, 1, GREATEST_FACTOR):
        raise BadNumber("m is a number from 1 to 360")
    if not all([m * d <= GREATEST_FACTOR for d in quotient]):
        raise TooMany(GREATEST_FACTOR)
    return {m * d: quotient[d] for d in sorted(quotient)}


def row_of(quotient, most):
    """The row of the coefficients of the quotient behind the exponent of its first term."""
    check_quotient(quotient)
    check_most(most)
    return quotient_series(quotient, most + 1)


def quotient_series(quotient, size):
    """As row_of, as many coefficients as size tells."""
    step = greatest_divisor(list(quotient))
    if step > 1:
        inner = {d // step: r for d, r in quotient.items()}
        return series_spread(quotient_series(inner, (size - 1) // step + 1), step, size)
    if len(quotient) <= FEW_FACTORS:
        return _series_of_few(quotient, size)
    powers = [0] * size
    for d, r in quotient.items():
        for n in range(d, size, d):
            powers[n] -= r
    return row_from_sums(sums_over_divisors(powers[1:], size))


def _series_of_few(quotient, size):
    """As quotient_series, for at most two factors: for these it is quicker to multiply their powers."""
    series = [1] + [0] * (size - 1)
    for d in sorted(quotient):
        power = series_spread(eta_power_series(quotient[d], (size - 1) // d + 1), d, size)
        series = power if d == min(quotient) else series_times(series, power, size)
    return series
