"""Ratios: pairs (above, below) without a common divisor above 1, below from 1 on."""

from math import gcd


def ratio_of(above, below):
    """The ratio above / below, below being from 1 on."""
    common = gcd(above, below)
    return (above // common, below // common)


def ratio_plus(one, other):
    """The sum of two ratios."""
    return ratio_of(one[0] * other[1] + other[0] * one[1], one[1] * other[1])
