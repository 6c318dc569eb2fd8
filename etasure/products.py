"""Products of powers of (1 - q ** n), and the powers that make a row."""

from etasure.checks import check_most, is_number_list
from etasure.errors import BadRow
from etasure.rows import check_row

MOST_POWERS = 3000


def check_powers(powers):
    """BadRow unless it is a list of at most 3000 numbers."""
    if not is_number_list(powers) or len(powers) > MOST_POWERS:
        raise BadRow("the powers are a list of at most 3000 numbers")


def product_row(powers, most):
    """The row of the product of (1 - q ** n) ** -en, the powers being e1, e2, .. and 0 beyond."""
    return row_from_sums(weighted_sums(powers, most))


def row_from_sums(sums):
    """The row a, as long and beginning with 1, for which n * a[n] is the sum of sums[k] * a[n - k] over k from 1 on."""
    later = sums[1:]
    row = [1]
    for n in range(1, len(sums)):
        total = sum([x * y for x, y in zip(later, row[::-1])])
        row.append(total // n)
    return row


def powers_of(row):
    """The list, one shorter, of the powers for which product_row is the row."""
    check_row(row)
    if row[0] != 1:
        raise BadRow("the row must begin with 1")
    sums = []
    for n in range(1, len(row)):
        known = sum([x * y for x, y in zip(sums, row[n - 1:0:-1])])
        sums.append(n * row[n] - known)
    return _powers_from_sums(sums)


def _powers_from_sums(sums):
    """The powers e1, e2, .. for which the sum of d * ed over the divisors d of n is the n-th of the sums."""
    rest = [0] + sums
    powers = []
    for d in range(1, len(rest)):
        weighted = rest[d]
        powers.append(weighted // d)
        for n in range(2 * d, len(rest), d):
            rest[n] -= weighted
    return powers


def weighted_sums(powers, most):
    """For n from 0 to most the sum of d * ed over all divisors d of n."""
    check_powers(powers)
    check_most(most)
    return sums_over_divisors(powers, most + 1)


def sums_over_divisors(powers, size):
    """For n from 0 to size - 1 the sum of d * ed over all divisors d of n, the powers being e1, e2, .."""
    sums = [0] * size
    for d, power in enumerate(powers[:size - 1], start=1):
        if power != 0:
            for n in range(d, size, d):
                sums[n] += d * power
    return sums
