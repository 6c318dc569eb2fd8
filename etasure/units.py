"""Units: quotients of a level that no matrix of it changes; quotients with told orders."""

from etasure.arithmetic import divisors_of, lcm_of, primes_of
from etasure.checks import check_level, is_number
from etasure.classes import check_borne_quotient, order_of_class
from etasure.errors import BadOrders
from etasure.hermite import elementary_divisors, parts_in, steps_of, sublattice
from etasure.orders import check_orders, exponents_with, has_divisors, local_orders_of, many_at, width_at
from etasure.quotients import bounded_quotient
from etasure.ratios import ratio_of


def with_orders(level, wanted):
    """(found, k) with the least k from 1 on such that the quotient found has k times the wanted orders."""
    check_level(level)
    check_orders(level, wanted)
    exponents, k = _whole_exponents(level, wanted)
    return (bounded_quotient(exponents), k)


def _whole_exponents(level, wanted):
    """(exponents, k) as with_orders, the exponents being of any size."""
    ratios = exponents_with(level, wanted)
    k = lcm_of([below for _, below in ratios.values()])
    return {d: k // ratios[d][1] * ratios[d][0] for d in ratios}, k


def unit_basis(level):
    """Units, one fewer than divisors, of whose powers each unit is in just one way a product."""
    check_level(level)
    divisors = divisors_of(level)
    return [{d: r for d, r in zip(divisors, row) if r != 0} for row in _unit_rows(level)]


def _unit_rows(level):
    """The base in steps of the lattice of all exponents of units, as lists by divisors.

    Its heads divide 24 and are 1 but for few, so all exponents are small.
    """
    divisors = divisors_of(level)
    size = len(divisors)
    # The last exponent makes the sum 0.
    rows = [[1 if at == place else 0 for at in range(size - 1)] + [-1] for place in range(size - 1)]
    functions = [(divisors, 24), (divisors[::-1], 24)]
    functions.extend([([_times_in(p, d) for d in divisors], 2) for p in primes_of(level)])
    for factors, m in functions:
        worths = [sum([factor * r for factor, r in zip(factors, row)]) for row in rows]
        rows = steps_of(sublattice(rows, worths, m))
    return rows


def _times_in(p, n):
    """How many times the prime p is in n."""
    times = 0
    while n % p == 0:
        n //= p
        times += 1
    return times


def in_units(level, quotient):
    """The exponents of the powers of unit_basis whose product is the quotient; None if it is no unit."""
    check_borne_quotient(level, quotient)
    return parts_in(_unit_rows(level), [quotient.get(d, 0) for d in divisors_of(level)])


def unit_with(level, wanted):
    """(found, k) with the least k from 1 on such that k times the wanted numbers are the local orders of found."""
    check_level(level)
    _check_numbers(level, wanted)
    orders = {c: ratio_of(wanted[c], width_at(level, c)) for c in wanted}
    exponents, k = _whole_exponents(level, orders)
    times = order_of_class(level, exponents)
    return (bounded_quotient({d: times * r for d, r in exponents.items()}), times * k)


def _check_numbers(level, wanted):
    """BadOrders unless it is a dict from just the divisors to numbers that come to 0 over all cusps."""
    if not has_divisors(level, wanted) or not all([is_number(order) for order in wanted.values()]):
        raise BadOrders("a dict from just the divisors of the level to numbers is needed")
    if sum([many_at(level, c) * wanted[c] for c in wanted]) != 0:
        raise BadOrders("the numbers must come to 0 over all cusps")


def unit_classes(level):
    """The orders of the cyclic groups whose product is that of all wanted orders modulo those of units."""
    table = []
    for unit in unit_basis(level):
        orders = local_orders_of(level, unit)
        table.append([orders[c][0] for c in orders])
    # All wanted orders are a lattice that has, in all dicts to numbers, no multiples of others but its own.
    return [n for n in elementary_divisors(table) if n > 1]
