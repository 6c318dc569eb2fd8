"""Roots of unity: Kronecker's symbols, Dedekind's sums, and how eta moves with a matrix.

All numbers here may be great, so everything follows Euclid's steps, which are few.
"""

from math import gcd

from etasure.checks import is_number
from etasure.errors import BadNumber, BadPair
from etasure.matrices import check_upright
from etasure.ratios import ratio_of, ratio_plus


def kronecker(a, n):
    """The Kronecker symbol (a / n)."""
    if not is_number(a) or not is_number(n):
        raise BadNumber("both must be numbers")
    if n == 0:
        return 1 if abs(a) == 1 else 0
    if a % 2 == 0 and n % 2 == 0:
        return 0
    sign = -1 if n < 0 and a < 0 else 1
    n, twos = without_twos(abs(n))
    if twos % 2 == 1:
        sign *= symbol_at_two(a)
    return sign * jacobi(a, n)


def without_twos(n):
    """(odd, twos) with n = odd * 2 ** twos, n being above 0."""
    twos = (n & -n).bit_length() - 1
    return n >> twos, twos


def symbol_at_two(n):
    """The symbol (n / 2), and (2 / n), of an odd n."""
    return 1 if n % 8 in (1, 7) else -1


def jacobi(a, n):
    """Jacobi's symbol (a / n), n being odd and from 1 on."""
    sign = 1
    a %= n
    while a != 0:
        a, twos = without_twos(a)
        if twos % 2 == 1:
            sign *= symbol_at_two(n)
        # Reciprocity: the symbol changes its sign exactly if both leave 3 by 4.
        if a % 4 == 3 and n % 4 == 3:
            sign = -sign
        a, n = n % a, a
    return sign if n == 1 else 0


def dedekind(d, c):
    """The ratio that is Dedekind's sum of d and c: of ((k / c)) * ((d * k / c)) over k from 1 to c."""
    if not is_number(d) or not is_number(c):
        raise BadPair("both must be numbers")
    if c < 1 or gcd(d, c) != 1:
        raise BadPair("the second number is from 1 on and has no common divisor with the first one above 1")
    total = (0, 1)
    sign = 1
    d %= c
    while d != 0:
        # Reciprocity; the sum of c and d is that of c modulo d and d.
        both = ratio_of(d * d + c * c + 1 - 3 * c * d, 12 * c * d)
        total = ratio_plus(total, (sign * both[0], both[1]))
        sign = -sign
        d, c = c % d, d
    return total


def whole_root(matrix):
    """The whole number whose 24th part tells how the logarithm of eta moves with an upright matrix."""
    check_upright(matrix)
    a, b, c, d = matrix
    if c == 0:
        return b
    above, below = dedekind(d, c)
    # Both parts may be no whole numbers: their common lower number is c.
    return (a + d - 12 * c * above // below) // c


def root_of(matrix):
    """The root of an upright matrix, from 0 to 23."""
    check_upright(matrix)
    a, b, c, d = matrix
    if c == 0:
        return b % 24
    root = (a + d) * c - b * d * (c * c - 1)
    if c % 2 == 1:
        symbol = kronecker(d, c)
        root -= 3 * c
    else:
        symbol = kronecker(c, abs(d))
        root += 3 * d - 3 - 3 * c * d
    if symbol == -1:
        root += 12
    return root % 24
