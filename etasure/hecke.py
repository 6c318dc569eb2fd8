"""Hecke's operators on straight sums: of one class, of a whole weight, with a character that a symbol tells."""

from math import gcd

from etasure.alikeness import places_of_classes
from etasure.arithmetic import free_product, power_of
from etasure.checks import check_most
from etasure.classes import is_plain, signed_factor
from etasure.cosets import index_of
from etasure.equal import check_level_and_sum
from etasure.errors import NotStraight
from etasure.modulo import check_prime
from etasure.pieces import sign_of_pieces
from etasure.roots import kronecker
from etasure.sums import coefficients
from etasure.terms import twice_of_term


def sign_of(level, terms):
    """The number D of the character of a straight sum; None if the sum is not straight."""
    check_level_and_sum(level, terms)
    return straight_sign(level, terms)


def straight_sign(level, terms):
    """As sign_of, of what is known to be right."""
    if len(places_of_classes(level, terms)) != 1:
        return None
    _, quotient, pieces = terms[0]
    twice = twice_of_term(terms[0])
    if twice < 2 or twice % 2 != 0 or not is_plain(level, quotient):
        return None
    return free_product(signed_factor(quotient), sign_of_pieces(pieces))


def check_straight(level, terms):
    """BadLevel, BadSum; NotStraight unless the sum is straight."""
    if sign_of(level, terms) is None:
        raise NotStraight("the sum is not straight at the level")


def numbers_up_to(terms, last):
    """The dict from whole exponents up to last to the coefficients but 0 of a straight sum."""
    found = coefficients(terms, (last, 1))
    return {n: found[(n, below)] for n, below in found}


def factor_at(level, terms, p):
    """chi(p) * p ** (k - 1) for a straight sum of the weight k."""
    if gcd(p, level) != 1:
        return 0
    return kronecker(straight_sign(level, terms), p) * power_of(p, twice_of_term(terms[0]) // 2 - 1)


def hecke_number(numbers, p, factor, n):
    """The n-th coefficient that the operator makes, of the coefficients and its factor at p."""
    told = numbers.get(p * n, 0)
    if n % p == 0:
        told += factor * numbers.get(n // p, 0)
    return told


def hecke_row(level, terms, p, most):
    """The coefficients, from that of q ** 0 on, of what the operator in p makes of a straight sum."""
    check_straight(level, terms)
    check_prime(p)
    check_most(most)
    numbers = numbers_up_to(terms, p * most)
    factor = factor_at(level, terms, p)
    return [hecke_number(numbers, p, factor, n) for n in range(most + 1)]


def reach_of(level, terms):
    """The greatest whole number up to which the coefficients of a straight sum tell all."""
    check_straight(level, terms)
    return reach_in(level, terms)


def reach_in(level, terms):
    """As reach_of, of what is known to be straight."""
    return twice_of_term(terms[0]) * index_of(level) // 24
