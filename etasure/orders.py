"""Orders of quotients at cusps, and the exponents that have told orders."""

from math import gcd

from etasure.arithmetic import divisors_of, lcm_of, phi, primes_of
from etasure.checks import is_number
from etasure.classes import check_borne_quotient
from etasure.errors import BadNumber, BadOrders
from etasure.quotients import check_quotient
from etasure.ratios import is_ratio, ratio_of


def check_denominator(c):
    """BadNumber unless it is a number from 1 on."""
    if not is_number(c) or c < 1:
        raise BadNumber("c is a number from 1 on")


def order_at(quotient, c):
    """The order, a ratio, of the quotient at the cusps with the denominator c."""
    check_quotient(quotient)
    check_denominator(c)
    return order_of(quotient, c)


def order_of(quotient, c):
    """As order_at, of exponents of any size."""
    common = lcm_of(quotient)
    above = sum([r * gcd(c, d) * gcd(c, d) * (common // d) for d, r in quotient.items()])
    return ratio_of(above, 24 * common)


def all_orders(level, quotient):
    """The dict from the divisors of the level to the orders at them."""
    check_borne_quotient(level, quotient)
    return {c: order_of(quotient, c) for c in divisors_of(level)}


def local_orders(level, quotient):
    """The dict from the divisors of the level to the orders at them times their widths."""
    check_borne_quotient(level, quotient)
    return local_orders_of(level, quotient)


def local_orders_of(level, exponents):
    """As local_orders, of exponents of any size."""
    orders = {}
    for c in divisors_of(level):
        above, below = order_of(exponents, c)
        orders[c] = ratio_of(width_at(level, c) * above, below)
    return orders


def width_at(level, c):
    """The width of the cusps with the denominator c."""
    return level // gcd(c * c, level)


def many_at(level, c):
    """How many cusps of the level have the denominator c, a divisor of the level."""
    return phi(gcd(c, level // c))


def is_holomorphic(quotient):
    """Whether no order of the quotient is below 0."""
    check_quotient(quotient)
    return all([order_of(quotient, c)[0] >= 0 for c in divisors_of(lcm_of(quotient))])


def check_orders(level, orders):
    """BadOrders unless it is a dict from just the divisors of the level to ratios."""
    if not has_divisors(level, orders) or not all([is_ratio(order) for order in orders.values()]):
        raise BadOrders("a dict from just the divisors of the level to ratios is needed")


def has_divisors(level, thing):
    """Whether it is a dict whose keys are just the divisors of the level."""
    if not isinstance(thing, dict) or not all([is_number(key) for key in thing]):
        return False
    return sorted(thing) == divisors_of(level)


def exponents_with(level, orders):
    """The dict from the divisors of the level to the ratios that are, as exponents, of these orders.

    The orders come from the exponents by a matrix that is a product of one matrix for each prime of
    the level; each of these is undone by itself, all ratios being kept with one lower number.
    """
    below = lcm_of([order[1] for order in orders.values()])
    values = {c: 24 * orders[c][0] * (below // orders[c][1]) for c in divisors_of(level)}
    for p in primes_of(level):
        power = p
        while level % (power * p) == 0:
            power *= p
        scale = (power // p) ** 2 * (p * p - 1)
        values = _undone(values, p, power, scale)
        below *= scale
    return {d: ratio_of(values[d], below) for d in values}


def _undone(values, p, power, scale):
    """Undo the matrix of the prime p, power being the one in the level; what comes is scale times as much.

    With f(i) the values along the powers of p and x(i) the exponents, f(i) - f(i - 1) is
    p ** (2 * i) - p ** (2 * i - 2) times the sum of x(j) / p ** j over j from i on; and f(0) is that from 0 on.
    """
    sums = {}
    for c in values:
        part = gcd(c, power)
        if part == 1:
            sums[c] = scale * values[c]
        else:
            sums[c] = (values[c] - values[c // p]) * (power // part) ** 2
    return {c: gcd(c, power) * (sums[c] - sums.get(c * p, 0)) for c in values}
