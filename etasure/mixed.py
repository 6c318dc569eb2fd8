"""Mixed terms: products of a number, a quotient and a period product."""

from etasure.arithmetic import lcm_of
from etasure.checks import check_level, check_most, is_within
from etasure.errors import BadLevel, BadMatrix, BadTerm
from etasure.groups import check_small
from etasure.matrices import check_cusp, check_upright
from etasure.multipliers import multiplier
from etasure.narrow import is_narrow_matrix, narrow_skeleton
from etasure.orders import order_of
from etasure.periods import check_period, is_product, moved_parts, order_of_product, product_start, put_product
from etasure.products import row_from_sums, sums_over_divisors
from etasure.quotients import is_quotient
from etasure.ratios import ratio_of, ratio_plus
from etasure.terms import GREATEST_NUMBER


def is_mixed(period, thing):
    """Whether it is a mixed term."""
    check_period(period)
    return is_mixed_term(period, thing)


def is_mixed_term(period, thing):
    """As is_mixed, of what is known to be a period."""
    if not isinstance(thing, tuple) or len(thing) != 3:
        return False
    number, quotient, product = thing
    if not is_within(number, -GREATEST_NUMBER, GREATEST_NUMBER) or number == 0:
        return False
    return is_quotient(quotient) and is_product(period, product)


def check_mixed(period, term):
    """BadTerm unless it is a mixed term."""
    if not is_mixed_term(period, term):
        raise BadTerm("a mixed term is a tuple of a number, a quotient and a period product")


def mixed_start(period, term):
    """The exponent of the first coefficient, a ratio."""
    check_period(period)
    check_mixed(period, term)
    return ratio_of(mixed_parts(period, term), 24 * period)


def mixed_parts(period, term):
    """24 * N times the exponent of the first coefficient."""
    return period * sum([d * r for d, r in term[1].items()]) + 2 * product_start(period, term[2])


def mixed_row(period, term, most):
    """The coefficients of the term from its start on."""
    check_period(period)
    check_mixed(period, term)
    check_most(most)
    return row_of_mixed(period, term, most + 1)


def row_of_mixed(period, term, size):
    """As mixed_row, as many coefficients as size tells."""
    number, quotient, product = term
    powers = [0] * size
    for d, r in quotient.items():
        for n in range(d, size, d):
            powers[n] -= r
    put_product(powers, period, product)
    return [number * x for x in row_from_sums(sums_over_divisors(powers[1:], size))]


def mixed_multiplier(period, term, matrix):
    """The ratio that tells the root of unity by which the term moves with the matrix, a narrow one."""
    check_period(period)
    check_mixed(period, term)
    check_upright(matrix)
    if not is_narrow_matrix(period, matrix) or not all([matrix[2] % d == 0 for d in term[1]]):
        raise BadMatrix("the matrix must be narrow for the period, and all d of the quotient divide its third number")
    return ratio_of(multiplier_parts(period, term, matrix), 24 * period)


def multiplier_parts(period, term, matrix):
    """24 * N times the ratio of mixed_multiplier."""
    parts = period * multiplier(term[1], matrix) + 2 * moved_parts(period, term[2], matrix)
    return parts % (24 * period)


def mixed_order(period, term, cusp):
    """The exponent of q, a ratio, with which the term begins at the cusp."""
    check_period(period)
    check_mixed(period, term)
    check_cusp(cusp)
    return order_of_mixed(period, term, cusp)


def order_of_mixed(period, term, cusp):
    """As mixed_order, of what is known to be right."""
    return ratio_plus(order_of(term[1], cusp[1]), order_of_product(period, term[2], cusp))


def check_bears_mixed(level, period, terms):
    """BadLevel unless the period and all d of the quotients divide the level; then TooMany(60)."""
    if not all([level % period == 0 and level % lcm_of(quotient) == 0 for _, quotient, _ in terms]):
        raise BadLevel("the period and all d of the quotients must divide the level")
    check_small(level)


def same_sort(level, period, one, other):
    """Whether both have equal sums of exponents, and the same multiplier on all upright narrow matrices."""
    check_level(level)
    check_period(period)
    check_mixed(period, one)
    check_mixed(period, other)
    check_bears_mixed(level, period, [one, other])
    matrices = generating_matrices(level)
    return sort_key(matrices, period, one) == sort_key(matrices, period, other)


def generating_matrices(level):
    """The matrices of which all upright narrow ones are products, but for signs."""
    return [matrix for matrix, _ in narrow_skeleton(level).basis]


def sort_key(matrices, period, term):
    """A list that two terms have in common exactly if they are of one sort; matrices are generating ones."""
    return [sum(term[1].values())] + [multiplier_parts(period, term, matrix) for matrix in matrices]
