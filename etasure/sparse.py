"""Sums with few terms that are products: of three factors (Jacobi) and of five (Watson)."""

from math import isqrt

from etasure.checks import check_most, is_number, is_within
from etasure.errors import BadNumber, BadStep
from etasure.products import product_row

GREATEST_STEP = 200


def check_steps(m, s):
    """BadStep unless m is from 2 to 200 and s from 1 to m - 1."""
    if not is_within(m, 2, GREATEST_STEP):
        raise BadStep("m is a number from 2 to 200")
    if not is_within(s, 1, m - 1):
        raise BadStep("s is a number from 1 to m - 1")


def check_half_steps(m, s):
    """BadStep unless, besides, 2 * s is below m."""
    check_steps(m, s)
    if 2 * s >= m:
        raise BadStep("2 * s must be below m")


def check_sign(sign):
    """BadNumber unless it is 1 or -1."""
    if not is_number(sign) or sign not in (1, -1):
        raise BadNumber("the sign is 1 or -1")


def triple_sum(m, s, sign, most):
    """The row of the sum of sign ** k * q ** (m * k * (k - 1) / 2 + s * k) over all whole k."""
    check_steps(m, s)
    check_sign(sign)
    check_most(most)
    row = [0] * (most + 1)
    # All exponents are k * k or more, so other k lead beyond the row.
    reach = isqrt(most)
    for k in range(-reach, reach + 1):
        _put(row, m * k * (k - 1) // 2 + s * k, sign if k % 2 == 1 else 1)
    return row


def triple_product(m, s, sign, most):
    """The row of the product that triple_sum is equal to."""
    check_steps(m, s)
    check_sign(sign)
    check_most(most)
    powers = [0] * (most + 1)
    for n in range(m, most + m + 1, m):
        _put_factor(powers, n, -1)
        _put_factor(powers, n - s, sign)
        _put_factor(powers, n - m + s, sign)
    return product_row(powers[1:], most)


def quintuple_sum(m, s, most):
    """The row of the sum of q ** (m * k * (3 * k + 1) / 2) * (q ** (-3 * k * s) - q ** ((3 * k + 1) * s))."""
    check_half_steps(m, s)
    check_most(most)
    row = [0] * (most + 1)
    # All exponents are k * k or more, so other k lead beyond the row.
    reach = isqrt(most)
    for k in range(-reach, reach + 1):
        middle = m * k * (3 * k + 1) // 2
        _put(row, middle - 3 * k * s, 1)
        _put(row, middle + (3 * k + 1) * s, -1)
    return row


def quintuple_product(m, s, most):
    """The row of the product that quintuple_sum is equal to."""
    check_half_steps(m, s)
    check_most(most)
    powers = [0] * (most + 1)
    for n in range(m, most + m + 1, m):
        _put_factor(powers, n, -1)
        _put_factor(powers, n - s, -1)
        _put_factor(powers, n - m + s, -1)
        _put_factor(powers, 2 * n - m - 2 * s, -1)
        _put_factor(powers, 2 * n - m + 2 * s, -1)
    return product_row(powers[1:], most)


def _put(numbers, place, number):
    """Add the number at the place if the list goes that far."""
    if place < len(numbers):
        numbers[place] += number


def _put_factor(powers, n, sign):
    """Put the factor 1 + sign * q ** n into the powers of (1 - q ** n) ** -1.

    1 + q ** n is (1 - q ** (2 * n)) / (1 - q ** n).
    """
    _put(powers, n, sign)
    if sign == 1:
        _put(powers, 2 * n, -1)
