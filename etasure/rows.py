"""Rows: the coefficients of q ** 0, q ** 1, .. up to some last one."""

from etasure.checks import is_number_list, is_within
from etasure.errors import BadNumber, BadRow, TooMany

LONGEST_ROW = 3001
MOST_ROWS = 360
GREATEST_POWER = 60


def is_row(thing):
    """Whether it is a list of 1 to 3001 numbers."""
    return is_number_list(thing) and 1 <= len(thing) <= LONGEST_ROW


def check_row(row):
    """BadRow unless it is a row."""
    if not is_row(row):
        raise BadRow("a row is a list of 1 to 3001 numbers")


def check_invertible(row):
    """BadRow unless the row begins with 1 or -1."""
    if row[0] not in (1, -1):
        raise BadRow("the row must begin with 1 or -1")


def row_plus(one, other):
    """The sum of both, as long as the shorter one."""
    check_row(one)
    check_row(other)
    return [x + y for x, y in zip(one, other)]


def row_times(one, other):
    """The product of both, as long as the shorter one."""
    check_row(one)
    check_row(other)
    size = min(len(one), len(other))
    back = list(other[:size])[::-1]
    return [sum([x * y for x, y in zip(one, back[size - n - 1:])]) for n in range(size)]


def row_inverse(row):
    """The row, as long, whose product with this one is 1."""
    check_row(row)
    check_invertible(row)
    return _power_of_led(row, -1)


def row_power(row, k):
    """The k-th power of the row, as long."""
    check_row(row)
    if not is_within(k, -GREATEST_POWER, GREATEST_POWER):
        raise BadNumber("the exponent is a number from -60 to 60")
    if k < 0:
        check_invertible(row)
    size = len(row)
    if k == 0:
        return [1] + [0] * (size - 1)
    zeros = _leading_zeros(row)
    if zeros * k >= size:
        return [0] * size
    led = row[zeros:zeros + size - zeros * k]
    return [0] * (zeros * k) + _power_of_led(led, k)


def _leading_zeros(row):
    """How many zeros stand ahead of the first other number."""
    count = 0
    while count < len(row) and row[count] == 0:
        count += 1
    return count


def _power_of_led(row, k):
    """The k-th power of a row that does not begin with 0; for k below 0 it begins with 1 or -1.

    With a the row and b the power, q * b' * a = k * q * a' * b. So n * a[0] * b[n] is the sum of
    ((k + 1) * i - n) * a[i] * b[n - i] over i from 1 to n: each b[n] follows from those ahead of it.
    """
    lead = row[0]
    first = 1
    for _ in range(abs(k)):
        first = first * lead
    terms = [(i, x) for i, x in enumerate(row) if i > 0 and x != 0]
    power = [first]
    for n in range(1, len(row)):
        total = 0
        for i, x in terms:
            if i > n:
                break
            total += ((k + 1) * i - n) * x * power[n - i]
        power.append(total // (n * lead))
    return power


def row_spread(row, m):
    """The row in q ** m, m times as long."""
    check_row(row)
    if not is_within(m, 1, MOST_ROWS):
        raise BadNumber("m is a number from 1 to 360")
    if m * len(row) > LONGEST_ROW:
        raise TooMany(LONGEST_ROW - 1)
    spread = [0] * (m * len(row))
    for n, x in enumerate(row):
        spread[m * n] = x
    return spread


def row_section(row, m, t):
    """The coefficients t, t + m, .. of the row."""
    check_row(row)
    if not is_within(m, 1, MOST_ROWS):
        raise BadNumber("m is a number from 1 to 360")
    if not is_within(t, 0, m - 1):
        raise BadNumber("t is a number from 0 to m - 1")
    if t >= len(row):
        raise BadRow("the row has no coefficient at t")
    return list(row[t::m])


def row_woven(rows):
    """The row whose section at t is the t-th of the rows, as far as it is known."""
    if not isinstance(rows, (list, tuple)) or not 1 <= len(rows) <= MOST_ROWS:
        raise BadRow("a list of 1 to 360 rows is needed")
    for row in rows:
        check_row(row)
    m = len(rows)
    size = min([m * len(row) + t for t, row in enumerate(rows)])
    if size > LONGEST_ROW:
        raise TooMany(LONGEST_ROW - 1)
    return [rows[n % m][n // m] for n in range(size)]
