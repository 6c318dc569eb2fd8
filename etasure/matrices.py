"""Matrices (a, b, c, d) of whole numbers with a * d - b * c = 1, and the cusps that they move."""

from math import gcd

from etasure.arithmetic import bezout
from etasure.checks import is_number_tuple, is_pair
from etasure.errors import BadCusp, BadMatrix

IDENTITY = (1, 0, 0, 1)
FLIP = (0, -1, 1, 0)


def is_matrix(thing):
    """Whether it is a tuple of four numbers with determinant 1."""
    if not is_number_tuple(thing) or len(thing) != 4:
        return False
    a, b, c, d = thing
    return a * d - b * c == 1


def is_cusp(thing):
    """Whether it is a pair without a common divisor whose second number is from 0 on; (1, 0) for 0."""
    if not is_pair(thing):
        return False
    a, c = thing
    if c == 0:
        return a == 1
    return c > 0 and gcd(a, c) == 1


def check_matrix(matrix):
    """BadMatrix unless it is a matrix."""
    if not is_matrix(matrix):
        raise BadMatrix("a matrix is a tuple (a, b, c, d) of numbers with a * d - b * c = 1")


def check_cusp(cusp):
    """BadCusp unless it is a cusp."""
    if not is_cusp(cusp):
        raise BadCusp("a cusp is a pair of numbers without a common divisor, (1, 0) or the second above 0")


def is_upright(matrix):
    """Whether a matrix is upright: c is above 0, or c is 0 and d is 1."""
    return matrix[2] > 0 or matrix[2] == 0 and matrix[3] == 1


def check_upright(matrix):
    """BadMatrix unless it is an upright matrix."""
    check_matrix(matrix)
    if not is_upright(matrix):
        raise BadMatrix("the matrix must be upright")


def check_matrix_of(level, matrix):
    """BadMatrix unless it is a matrix of the level."""
    check_matrix(matrix)
    if matrix[2] % level != 0:
        raise BadMatrix("the level must divide the third number of the matrix")


def composed(one, other):
    """The product of one, the left factor, and other."""
    check_matrix(one)
    check_matrix(other)
    return product_of(one, other)


def product_of(one, other):
    """As composed, of what are known to be matrices."""
    a, b, c, d = one
    p, q, r, s = other
    return (a * p + b * r, a * q + b * s, c * p + d * r, c * q + d * s)


def inverted(matrix):
    """The inverse of the matrix."""
    check_matrix(matrix)
    a, b, c, d = matrix
    return (d, -b, -c, a)


def upright(matrix):
    """The matrix or its negative one, whichever is upright."""
    check_matrix(matrix)
    if is_upright(matrix):
        return tuple(matrix)
    a, b, c, d = matrix
    return (-a, -b, -c, -d)


def moved(matrix, cusp):
    """The cusp to which the matrix moves the cusp."""
    check_matrix(matrix)
    check_cusp(cusp)
    a, b, c, d = matrix
    u, v = cusp
    above, below = a * u + b * v, c * u + d * v
    if below < 0 or below == 0 and above < 0:
        return (-above, -below)
    return (above, below)


def matrix_power(matrix, k):
    """The k-th power of a matrix, k any number."""
    square = inverted(matrix) if k < 0 else matrix
    left = abs(k)
    power = IDENTITY
    while left > 0:
        if left % 2 == 1:
            power = product_of(power, square)
        square = product_of(square, square)
        left //= 2
    return power


def matrix_with_row(c, d):
    """A matrix whose second row is (c, d), numbers without a common divisor."""
    _, x, y = bezout(c, d)
    return (y, -x, c, d)


def matrix_to_cusp(cusp):
    """A matrix that moves infinity to the cusp."""
    a, c = cusp
    _, x, y = bezout(a, c)
    return (a, -y, c, x)
