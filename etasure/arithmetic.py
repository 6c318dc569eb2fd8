"""Divisors, primes and inverses of whole numbers, used by many modules."""

from math import gcd, isqrt, lcm


def bezout(a, b):
    """(g, x, y) with g = a * x + b * y, the greatest common divisor; b is above 0, or 0 and a is above 0."""
    x, next_x = 1, 0
    y, next_y = 0, 1
    while b != 0:
        times = a // b
        a, b = b, a - times * b
        x, next_x = next_x, x - times * next_x
        y, next_y = next_y, y - times * next_y
    return a, x, y


def inverse_modulo(a, m):
    """The number from 0 to m - 1 whose product with a leaves 1 by m; a and m have no common divisor."""
    return bezout(a, m)[1] % m


def divisors_of(n):
    """The ascending list of the divisors of n, from 1 on."""
    small = [d for d in range(1, isqrt(n) + 1) if n % d == 0]
    return small + [n // d for d in small[::-1] if d * d != n]


def primes_of(n):
    """The ascending list of the primes that divide n; n is small."""
    primes = []
    p = 2
    while n > 1:
        if n % p == 0:
            primes.append(p)
            while n % p == 0:
                n //= p
        p += 1
    return primes


def phi(n):
    """How many numbers from 1 to n have no common divisor with n; n is small."""
    return len([u for u in range(1, n + 1) if gcd(u, n) == 1])


def power_of(base, exponent):
    """base to the exponent, a number from 0 on."""
    power = 1
    for _ in range(exponent):
        power *= base
    return power


def square_free(n):
    """The product of the primes that are in n an odd number of times; n is small."""
    free = 1
    for p in primes_of(n):
        while n % (p * p) == 0:
            n //= p * p
        if n % p == 0:
            free *= p
    return free


def free_product(one, other):
    """The product of two square-free numbers, of either sign, without the squares in it."""
    common = gcd(one, other)
    return (one // common) * (other // common)


def greatest_divisor(numbers):
    """The greatest common divisor of the numbers, 0 if all are 0."""
    common = 0
    for x in numbers:
        common = gcd(common, x)
    return common


def lcm_of(numbers):
    """The least common multiple of what is gone over, 1 for nothing."""
    common = 1
    for n in numbers:
        common = lcm(common, n)
    return common
