"""Divisors, primes and inverses of whole numbers, used by many modules."""

from math import gcd


def bezout(a, b):
    """(g, x, y) with g = a * x + b * y, the greatest common divisor; b is above 0, or 0 and a is above 0."""
    x, next_x = 1, 0
    y, next_y = 0, 1
    while b != 0:
        times = a // b
        a, b = b, a - times * b
        x, next_x = next_x, x - times * next_x
        y, next_y = next_y, y - times * next_y
    return a, x, y


def inverse_modulo(a, m):
    """The number from 0 to m - 1 whose product with a leaves 1 by m; a and m have no common divisor."""
    return bezout(a, m)[1] % m


def divisors_of(n):
    """The ascending list of the divisors of n, from 1 on; n is small."""
    return [d for d in range(1, n + 1) if n % d == 0]


def primes_of(n):
    """The ascending list of the primes that divide n; n is small."""
    primes = []
    p = 2
    while n > 1:
        if n % p == 0:
            primes.append(p)
            while n % p == 0:
                n //= p
        p += 1
    return primes


def phi(n):
    """How many numbers from 1 to n have no common divisor with n; n is small."""
    return len([u for u in range(1, n + 1) if gcd(u, n) == 1])
