"""Cusps of a level: which of them matrices of the level move to one another, and what leaves one fixed."""

from math import gcd

from etasure.arithmetic import divisors_of, inverse_modulo
from etasure.checks import check_level
from etasure.matrices import check_cusp, check_matrix_of, inverted, matrix_to_cusp, product_of, upright


def all_cusps(level):
    """The list of the cusps (a, c) of the level in which c divides it, one of each orbit."""
    check_level(level)
    cusps = []
    for c in divisors_of(level):
        common = gcd(c, level // c)
        rests = [rest for rest in range(common) if gcd(rest, common) == 1]
        cusps.extend([(a, c) for a in sorted([_least_above(rest, common, c) for rest in rests])])
    return cusps


def _least_above(rest, common, c):
    """The least a from 1 on of this rest by common that has no common divisor with c."""
    a = rest % common
    while a < 1 or gcd(a, c) != 1:
        a += common
    return a


def width_of(level, cusp):
    """How many steps T takes to lead back to the cusp."""
    check_level(level)
    check_cusp(cusp)
    return level // gcd(cusp[1] * cusp[1], level)


def cusp_of(level, cusp):
    """The one of all_cusps to which some matrix of the level moves the cusp."""
    check_level(level)
    check_cusp(cusp)
    u, v = cusp
    c = gcd(v, level)
    return (_least_above(u * (v // c), gcd(c, level // c), c), c)


def carried(level, one, other):
    """An upright matrix of the level that moves one to other; None if there is none."""
    check_level(level)
    check_cusp(one)
    check_cusp(other)
    first = matrix_to_cusp(one)
    second = matrix_to_cusp(other)
    # All that move one to other are, but for signs, second * T ** k * inverted(first), in which
    # the third number is needed - k * slope: the level must divide it.
    slope = first[2] * second[2]
    needed = second[2] * first[3] - second[3] * first[2]
    common = gcd(slope, level)
    if needed % common != 0:
        return None
    rest = level // common
    k = needed // common * inverse_modulo(slope // common, rest) % rest
    return upright(product_of(product_of(second, (1, k, 0, 1)), inverted(first)))


def turn_at(level, cusp):
    """The matrix of the level that leaves the cusp where it is and turns by its width around it."""
    width = width_of(level, cusp)
    a, c = cusp
    return (1 - a * c * width, a * a * width, -c * c * width, 1 + a * c * width)


def fixed_cusp(level, matrix):
    """(cusp, k) if the matrix or its negative one is the k-th power, k not 0, of turn_at the cusp; or None."""
    check_level(level)
    check_matrix_of(level, matrix)
    p, q, r, s = matrix
    if p + s == -2:
        p, q, r, s = -p, -q, -r, -s
    if p + s != 2 or q == 0 and r == 0:
        return None
    if r == 0:
        return ((1, 0), q)
    # With k, a, c and the width w: p - 1 is -k * w * a * c, and r is -k * w * c * c.
    common = gcd(p - 1, r)
    c = abs(r) // common
    a = (p - 1) * c // r
    return ((a, c), -r // (c * c * width_of(level, (a, c))))
