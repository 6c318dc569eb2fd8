"""Multipliers: how quotients move with matrices."""

from etasure.errors import BadMatrix
from etasure.matrices import check_upright
from etasure.quotients import check_quotient
from etasure.roots import root_of


def multiplier(quotient, matrix):
    """The number from 0 to 23 that tells the root of unity by which the quotient moves with the matrix."""
    check_quotient(quotient)
    check_upright(matrix)
    a, b, c, d = matrix
    if not all([c % factor == 0 for factor in quotient]):
        raise BadMatrix("each d of the quotient must divide the third number of the matrix")
    return sum([r * root_of((a, b * factor, c // factor, d)) for factor, r in quotient.items()]) % 24
