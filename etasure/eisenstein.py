"""Sums of powers of divisors, and Eisenstein's series of the weights 2, 4 and 6."""

from etasure.arithmetic import divisors_of, power_of
from etasure.checks import check_most, is_number, is_within
from etasure.errors import BadNumber, BadWeight

GREATEST_DIVIDED = 999999
GREATEST_DIVISOR_POWER = 11
FACTORS = {2: -24, 4: 240, 6: -504}


def divisor_sum(n, k):
    """The sum of d ** k over all divisors d of n."""
    if not is_within(n, 1, GREATEST_DIVIDED):
        raise BadNumber("n is a number from 1 to 999999")
    if not is_within(k, 0, GREATEST_DIVISOR_POWER):
        raise BadNumber("k is a number from 0 to 11")
    return sum([power_of(d, k) for d in divisors_of(n)])


def eisenstein_row(weight, most):
    """The row of the series of the weight 2, 4 or 6."""
    if not is_number(weight) or weight not in FACTORS:
        raise BadWeight("the weight is 2, 4 or 6")
    check_most(most)
    return eisenstein_series(weight, most + 1)


def eisenstein_series(weight, size):
    """The first coefficients of the series, as many as size tells."""
    series = [1] + [0] * (size - 1)
    for d in range(1, size):
        term = FACTORS[weight] * power_of(d, weight - 1)
        for n in range(d, size, d):
            series[n] += term
    return series
