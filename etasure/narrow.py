"""Narrow matrices of a level: those that are, but for a sign, (1, *, 0, 1) modulo the level."""

from math import gcd

from etasure.checks import check_level
from etasure.errors import BadMatrix
from etasure.groups import check_small, steps_along, turns_to
from etasure.matrices import FLIP, check_matrix, check_upright, matrix_with_row
from etasure.skeleton import TURN, Skeleton


def is_narrow(level, matrix):
    """Whether the matrix is narrow for the level."""
    check_level(level)
    check_matrix(matrix)
    check_small(level)
    return is_narrow_matrix(level, matrix)


def is_narrow_matrix(level, matrix):
    """As is_narrow, of what is known to be right, at any level."""
    a, _, c, d = matrix
    return c % level == 0 and any([(a - sign) % level == 0 and (d - sign) % level == 0 for sign in (1, -1)])


def check_narrow_level(level):
    """BadLevel, TooMany(60) unless it is a level up to 60."""
    check_level(level)
    check_small(level)


def narrow_index(level):
    """How many sets of a pair that counts at the level, and its negative one, there are modulo the level."""
    check_narrow_level(level)
    return len(_narrow_points(level))


def _narrow_point(level, c, d):
    """The lesser one of the pairs (c, d) and (-c, -d) modulo the level."""
    return min((c % level, d % level), (-c % level, -d % level))


def _narrow_points(level):
    """The ascending list of the lesser pairs of all sets that count."""
    pairs = [(c, d) for c in range(level) for d in range(level) if gcd(gcd(c, d), level) == 1]
    return [(c, d) for c, d in pairs if _narrow_point(level, c, d) == (c, d)]


def narrow_cusps(level):
    """The list of pairs (cusp, width): each cusp is moved by narrow matrices to just one of these."""
    check_narrow_level(level)
    start = _narrow_point(level, 0, 1)
    met = {}
    found = []
    for point in [start] + _narrow_points(level):
        if point in met:
            continue
        width = 0
        c, d = point
        while (c, d) not in met:
            met[(c, d)] = True
            width += 1
            c, d = _narrow_point(level, c, c + d)
        found.append(((1, 0) if point == start else _cusp_at(level, point), width))
    return found


def _cusp_at(level, point):
    """The cusp to which a matrix with this point moves infinity."""
    c, d = point
    if c == 0:
        c = level
    while gcd(c, d) != 1:
        d += level
    # T is narrow, so only the rest by c counts.
    return (matrix_with_row(c, d)[0] % c, c)


def narrow_skeleton(level):
    """The graph of the narrow matrices of a level, their points being told by sets."""
    points = _narrow_points(level)
    places = {point: at for at, point in enumerate(points)}
    flips = [places[_moved_point(level, point, FLIP)] for point in points]
    turns = [places[_moved_point(level, point, TURN)] for point in points]
    return Skeleton(flips, turns, places[_narrow_point(level, 0, 1)])


def _moved_point(level, point, matrix):
    """The point to which a matrix moves the point."""
    c, d = point
    p, q, r, s = matrix
    return _narrow_point(level, c * p + d * r, c * q + d * s)


def narrow_generators(level):
    """The list of the generators of the narrow matrices, pairs (matrix, order), order 0 for the free ones."""
    check_narrow_level(level)
    return narrow_skeleton(level).basis


def narrow_path(level, matrix):
    """The path of these generators along which the matrix, upright and narrow, is found."""
    check_level(level)
    check_upright(matrix)
    if not is_narrow_matrix(level, matrix):
        raise BadMatrix("the matrix must be narrow for the level")
    check_small(level)
    turns = turns_to(matrix)
    return tuple(steps_along(narrow_skeleton(level), turns))
