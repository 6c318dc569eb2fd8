"""Points: what the second row of a matrix is modulo a level, but for a factor."""

from math import gcd

from etasure.arithmetic import divisors_of, inverse_modulo, primes_of
from etasure.checks import check_level, is_number, is_pair
from etasure.errors import BadPair
from etasure.matrices import IDENTITY, check_matrix, matrix_with_row


def index_of(level):
    """The level times the product of (p + 1) / p over its primes p."""
    check_level(level)
    index = level
    for p in primes_of(level):
        index = index // p * (p + 1)
    return index


def point_for(level, c, d):
    """The point of the pair (c, d), which counts at the level."""
    check_level(level)
    if not is_number(c) or not is_number(d):
        raise BadPair("both must be numbers")
    if gcd(gcd(c, d), level) != 1:
        raise BadPair("the pair and the level must have no common divisor above 1")
    return least_pair(level, c, d)


def least_pair(level, c, d):
    """As point_for, of a pair that is known to count."""
    common = gcd(c, level)
    step = level // common
    # (u * c) modulo the level is least, common or 0, just for the u of this rest by step.
    first = inverse_modulo(c // common, step)
    seconds = [u * d % level for u in range(first, level, step) if gcd(u, level) == 1]
    return (common % level, min(seconds))


def all_points(level):
    """The ascending list of all points."""
    check_level(level)
    points = []
    for c in divisors_of(level):
        for d in range(level):
            point = (c % level, d)
            if gcd(c, d) == 1 and least_pair(level, c, d) == point:
                points.append(point)
    return sorted(points)


def point_of(level, matrix):
    """The point of the second row of the matrix."""
    check_level(level)
    check_matrix(matrix)
    return least_pair(level, matrix[2], matrix[3])


def is_point(level, thing):
    """Whether it is one of the points of the level."""
    if not is_pair(thing):
        return False
    c, d = thing
    return gcd(gcd(c, d), level) == 1 and least_pair(level, c, d) == thing


def matrix_at(level, pair):
    """An upright matrix whose point is the pair."""
    check_level(level)
    if not is_point(level, pair):
        raise BadPair("the pair is not one of the points of the level")
    c, d = pair
    if c == 0:
        return IDENTITY
    # The c of a point divides the level, so c and d have no common divisor but 1.
    return matrix_with_row(c, d)


def moved_point(level, point, matrix):
    """The point to which a matrix moves the point."""
    c, d = point
    p, q, r, s = matrix
    return least_pair(level, c * p + d * r, c * q + d * s)
