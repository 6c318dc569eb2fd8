"""All quotients of a level whose orders are not below told ones: the whole points of a simplex."""

from etasure.arithmetic import divisors_of, lcm_of, primes_of
from etasure.checks import check_level, is_within
from etasure.cosets import index_of
from etasure.errors import BadTwice
from etasure.orders import check_orders, exponents_with, many_at, width_at
from etasure.quotients import GREATEST_EXPONENT, pairs_of
from etasure.ratios import is_below, ratio_of, ratio_plus
from etasure.sections import Section, whole_points

GREATEST_TWICE = 200
MOST_QUOTIENTS = 2000


def quotients_above(level, twice, lows):
    """All quotients that the level bears with this sum of exponents and no order below that in lows."""
    check_level(level)
    check_twice(twice)
    check_orders(level, lows)
    return quotients_in(level, twice, lows)


def check_twice(twice):
    """BadTwice unless it is a number from -200 to 200."""
    if not is_within(twice, -GREATEST_TWICE, GREATEST_TWICE):
        raise BadTwice("twice is a number from -200 to 200")


def holomorphic_ones(level, twice):
    """All quotients that the level bears with this sum of exponents and no order below 0."""
    check_level(level)
    check_twice(twice)
    return quotients_in(level, twice, {c: (0, 1) for c in divisors_of(level)})


def quotients_in(level, twice, lows):
    """As quotients_above, of what is known to be right."""
    corners = _corners(level, twice, lows)
    if not corners:
        return []
    keys = _sequence(level)
    scale = lcm_of([ratio[1] for corner in corners for ratio in corner.values()])
    numbers = list(range(len(corners)))
    # Shares of the corners, that come to 1, seen from the first corner.
    section = Section({0: [1] + [-1] * (len(corners) - 1)}, numbers[1:], numbers, 1)
    tables = [{d: scale // corner[d][1] * corner[d][0] for d in corner} for corner in corners]
    for d in keys:
        section.rows[-d] = _row_of([sum([table[m] for m in keys if m % d == 0]) for table in tables])
    if not _is_boxed(section, tables, scale):
        return []
    points = whole_points(section, [-d for d in keys if d > 1], scale, MOST_QUOTIENTS)
    found = [_quotient_of(keys, [twice] + point) for point in points]
    return sorted(found, key=pairs_of)


def _corners(level, twice, lows):
    """The corners of the simplex, as dicts of ratios from the divisors; [] if there is none."""
    weights = {c: many_at(level, c) * width_at(level, c) for c in lows}
    left = ratio_of(twice * index_of(level), 24)
    for c, (above, below) in lows.items():
        left = ratio_plus(left, ratio_of(-weights[c] * above, below))
    if is_below(left, (0, 1)):
        return []
    corners = []
    for c in divisors_of(level):
        orders = {other: lows[other] for other in lows}
        orders[c] = ratio_plus(lows[c], ratio_of(left[0], left[1] * weights[c]))
        corners.append(exponents_with(level, orders))
    return corners


def _sequence(level):
    """The divisors in a sequence in which, prime by prime, those of smaller levels come first.

    The sums of the exponents at all multiples of d, for the d of a smaller level, are as those of a
    quotient of that level; so what is chosen for it is seldom in vain.
    """
    keys = [1]
    for p in primes_of(level)[::-1]:
        ahead = keys
        power = p
        while level % power == 0:
            keys = keys + [d * power for d in ahead]
            power *= p
    return keys


def _row_of(worths):
    """The row of a section for what has these worths at the corners, seen from the first one."""
    return [worths[0]] + [worth - worths[0] for worth in worths[1:]]


def _is_boxed(section, tables, scale):
    """Cut off what has exponents out of the bounds of quotients, and tell whether something is left."""
    first = len(tables)
    last = first
    for d in tables[0]:
        for sign in (1, -1):
            worths = [GREATEST_EXPONENT * scale - sign * table[d] for table in tables]
            if min(worths) < 0:
                section.rows[last] = _row_of(worths)
                last += 1
    for key in range(first, last):
        if not section.bound_below(key):
            return False
    return True


def _quotient_of(keys, sums):
    """The quotient whose exponents at the multiples of each key come to the sums."""
    exponents = {}
    for d, total in list(zip(keys, sums))[::-1]:
        exponents[d] = total - sum([exponents[m] for m in exponents if m % d == 0])
    return {d: exponents[d] for d in sorted(exponents) if exponents[d] != 0}
