"""Terms: products of a number, a quotient and pieces."""

from math import lcm

from etasure.arithmetic import lcm_of
from etasure.checks import GREATEST_LEVEL, check_most, is_within
from etasure.errors import BadMatrix, BadPair, BadTerm
from etasure.matrices import check_upright
from etasure.multipliers import multiplier
from etasure.orders import check_denominator, order_of
from etasure.pieces import (check_reach, is_piece, least_of_piece, level_of_piece, piece_series, sign_of_piece,
                            start_of_piece, weight_of_piece)
from etasure.quotients import is_quotient, product_of_quotients, quotient_series
from etasure.ratios import ratio_of, ratio_plus
from etasure.roots import kronecker
from etasure.series import series_times

GREATEST_NUMBER = 1000000000000000000000000000000000000000000000000000000000000
MOST_PIECES = 6


def is_term(thing):
    """Whether it is a term."""
    if not isinstance(thing, tuple) or len(thing) != 3:
        return False
    number, quotient, pieces = thing
    if not is_within(number, -GREATEST_NUMBER, GREATEST_NUMBER) or number == 0 or not is_quotient(quotient):
        return False
    if not isinstance(pieces, tuple) or len(pieces) > MOST_PIECES:
        return False
    if not all([is_piece(piece) for piece in pieces]):
        return False
    if not all([one <= other for one, other in zip(pieces, pieces[1:])]):
        return False
    return level_of_term(thing) <= GREATEST_LEVEL


def check_term(term):
    """BadTerm unless it is a term."""
    if not is_term(term):
        raise BadTerm("a term is a tuple of a number, a quotient and an ascending tuple of pieces")


def term_level(term):
    """The level of the term."""
    check_term(term)
    return level_of_term(term)


def level_of_term(term):
    """As term_level, of what is known to be a term but for its level."""
    return lcm(lcm_of(term[1]), lcm_of([level_of_piece(piece) for piece in term[2]]))


def term_twice(term):
    """Twice the weight of the term."""
    check_term(term)
    return twice_of_term(term)


def twice_of_term(term):
    """As term_twice, of what is known to be a term."""
    return sum(term[1].values()) + 2 * sum([weight_of_piece(piece) for piece in term[2]])


def term_start(term):
    """The exponent of the first coefficient of the term, a ratio."""
    check_term(term)
    return ratio_of(start_parts(term), 24)


def start_parts(term):
    """24 times the exponent of the first coefficient of what is known to be a term."""
    return sum([d * r for d, r in term[1].items()]) + 24 * sum([start_of_piece(piece) for piece in term[2]])


def term_row(term, most):
    """The coefficients of the term from its start on."""
    check_term(term)
    check_most(most)
    return row_of_term(term, most)


def row_of_term(term, most):
    """As term_row, of what is known to be right; most may be greater than 3000."""
    number, quotient, pieces = term
    for piece in pieces:
        check_reach(piece, most)
    size = most + 1
    row = [number * x for x in quotient_series(quotient, size)]
    for piece in pieces:
        row = series_times(row, piece_series(piece, size), size)
    return row


def term_least(term, c):
    """A ratio that the order of the term at no cusp with the denominator c is below."""
    check_term(term)
    check_denominator(c)
    return least_of_term(term, c)


def least_of_term(term, c):
    """As term_least, of what is known to be right."""
    least = order_of(term[1], c)
    for piece in term[2]:
        least = ratio_plus(least, least_of_piece(piece, c))
    return least


def term_multiplier(term, matrix):
    """The number from 0 to 23 that tells the root of unity by which the term moves with the matrix."""
    check_term(term)
    check_upright(matrix)
    if matrix[2] % level_of_term(term) != 0:
        raise BadMatrix("the level of the term must divide the third number of the matrix")
    odd = len([piece for piece in term[2] if kronecker(sign_of_piece(piece), matrix[3]) == -1])
    return (multiplier(term[1], matrix) + 12 * odd) % 24


def term_times(one, other):
    """The product of both terms."""
    check_term(one)
    check_term(other)
    product = product_of_terms(one, other)
    if not is_term(product):
        raise BadPair("the product of both is no term")
    return product


def product_of_terms(one, other):
    """The product of both, which may be no term."""
    return (one[0] * other[0], product_of_quotients(one[1], other[1]), tuple(sorted(one[2] + other[2])))
