"""Counts for a level: elliptic points, cusps, the genus and the rank of its group."""

from math import gcd

from etasure.arithmetic import divisors_of, phi
from etasure.checks import check_level
from etasure.cosets import index_of


def elliptic(level):
    """How many x from 0 to N - 1 make x * x + 1, and how many x * x + x + 1, divisible by the level N."""
    check_level(level)
    squares = len([x for x in range(level) if (x * x + 1) % level == 0])
    cubes = len([x for x in range(level) if (x * x + x + 1) % level == 0])
    return (squares, cubes)


def cusp_count(level):
    """How many cusps there are that matrices of the level do not move to one another."""
    check_level(level)
    return sum([phi(gcd(c, level // c)) for c in divisors_of(level)])


def genus_of(level):
    """The genus of the level."""
    twos, threes = elliptic(level)
    return (12 + index_of(level) - 3 * twos - 4 * threes - 6 * cusp_count(level)) // 12


def rank_of(level):
    """How many generators the group of the level has, modulo 1 and -1."""
    twos, threes = elliptic(level)
    return twos + threes + 2 * genus_of(level) + cusp_count(level) - 1
